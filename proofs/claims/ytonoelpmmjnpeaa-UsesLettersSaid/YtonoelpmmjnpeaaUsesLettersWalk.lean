/-
  UsesLetters: what a request needs does not hang on the letters of its name, nor on words that are no keys; what is handed in stays.
-/
import Derived.Test.YtonoelpmmjnpeaaUseLaw
import Derived.Test.YtonoelpmmjnpeaaUseLett
import Derived.Test.YtonoelpmmjnpeaaStrSame
import Derived.Test.YtonoelpmmjnpeaaLowRef
import Derived.Laws.OwnMore
namespace Go.Proofs.Ytonoelpmmjnpeaa.usesLetters
open Go.RowKit Kit StrT UseT TableMath Low UseM RefU UseL
set_option linter.unusedVariables false
set_option maxRecDepth 100000
-- ASKS: 

/-- The first word of an own row, put anew. -/
theorem ss_put {w : World} {g : Nat} {L : List (List UInt8)} (h : Ss w (some ⟨g, 0, none⟩) L) (i : Nat) (S : ByteArray) (x : List UInt8) (hS : S.data.toList = x) (hi : i < L.length) : Ss (w.setCell ⟨g, i, none⟩ (.string S)) (some ⟨g, 0, none⟩) (L.set i x) := by
  subst hS
  intro h0
  rw [List.length_set] at h0
  obtain ⟨b, off, e, hlt, hc⟩ := h h0
  injection e with e
  injection e with e1 e2 e3
  subst e1 e2
  refine ⟨g, 0, rfl, by simpa using hlt, fun j hj => ?_⟩
  rw [List.length_set] at hj
  have hcj := hc j hj
  have hci := hc i hi
  rw [Nat.zero_add] at hcj hci ⊢
  by_cases hji : j = i
  · subst hji
    rw [World.cell?_setCell_same w _ _ hci]
    simp
  · rw [World.cell?_setCell_other w _ _ _ (by intro e'; injection e' with _ e'; exact hji e'.symm), hcj, List.getElem_set_ne (by omega)]
theorem app_data (a b : ByteArray) : (a ++ b).data.toList = a.data.toList ++ b.data.toList := by
  rw [ByteArray.data_append, Array.toList_append]
theorem wrap64_nat (m : Nat) (h : m ≤ 40) : wrap64 (m : Int) = (m : Int) := by
  unfold wrap64
  omega
theorem one_or (m : Nat) (h : (0 : Int) < (m : Int)) : m = 1 ∨ 2 ≤ m := by omega
theorem less_one (l m : Nat) (h : l = m + 1) : (l : Int) - 1 = (m : Int) ∧ (m : Int) < (l : Int) ∧ (0 : Int) ≤ (m : Int) := by omega
theorem last_cell {w : World} {g m : Nat} {M : List (List UInt8)} {X : List UInt8} (h : Ss w (some ⟨g, 0, none⟩) (M ++ [X])) (hm : M.length = m) : w.cell? ⟨g, m, none⟩ = some (.string ⟨X.toArray⟩) := by
  subst hm
  obtain ⟨b, off, e, hlt, hc⟩ := h (by simp)
  injection e with e
  injection e with e1 e2 e3
  subst e1 e2
  have := hc M.length (by simp)
  rw [Nat.zero_add] at this
  simpa using this
theorem put_last {w : World} {g m : Nat} {M : List (List UInt8)} {X : List UInt8} (h : Ss w (some ⟨g, 0, none⟩) (M ++ [X])) (hm : M.length = m) (V : ByteArray) (Y : List UInt8) (hV : V.data.toList = Y) : Ss (w.setCell ⟨g, m, none⟩ (.string V)) (some ⟨g, 0, none⟩) (M ++ [Y]) := by
  subst hm
  have := ss_put h M.length V Y hV (by simp)
  rwa [show (M ++ [X]).set M.length Y = M ++ [Y] by simp] at this
theorem other_block {g a j m : Nat} (h : g < a) (hj : a ≤ j) : j ≠ (⟨g, m, none⟩ : Addr).block := by
  show j ≠ g
  omega
theorem nopen_high {base : Nat} {w w' : World} {d : Nd} {qk qc : Option Addr} {ck cc : Nat} (h : NOpen base w d qk qc ck cc) (hk : ∀ k, base ≤ k → w'.heap[k]? = w.heap[k]?) (hs : w.heap.size ≤ w'.heap.size) : NOpen base w' d qk qc ck cc := by
  refine ⟨fun h0 => ?_, fun h0 => ?_, h.ku, h.ks, h.c1, h.c2, h.c3, h.e1, h.e2, h.e3⟩
  · obtain ⟨b, off, e, hlt, hc⟩ := h.u h0
    have hb := h.ku _ e
    refine ⟨b, off, e, by omega, fun j hj => ?_⟩
    rw [← hc j hj]
    simp [World.cell?, hk b hb]
  · obtain ⟨b, off, e, hlt, hc⟩ := h.s h0
    have hb := h.ks _ e
    refine ⟨b, off, e, by omega, fun j hj => ?_⟩
    rw [← hc j hj]
    simp [World.cell?, hk b hb]
theorem ncells_high {a g : Nat} {w w' : World} {x0 x1 x2 x3 x4 : Value} (h : NCells w g x0 x1 x2 x3 x4) (hk : ∀ k, a ≤ k → w'.heap[k]? = w.heap[k]?) (hg : a ≤ g) : NCells w' g x0 x1 x2 x3 x4 := by
  have e := hk g hg
  refine ⟨?_, ?_, ?_, ?_, ?_⟩
  · rw [← h.c0]; simp [World.cell?, e]
  · rw [← h.c1]; simp [World.cell?, e]
  · rw [← h.c2]; simp [World.cell?, e]
  · rw [← h.c3]; simp [World.cell?, e]
  · rw [← h.c4]; simp [World.cell?, e]
/-- An own row, opened: its block, its cells, that it may be written. -/
theorem own_open {base : Nat} {w : World} {v : Value} {L : List (List UInt8)} (h : OwnS base w v L) (h0 : 0 < L.length) : ∃ g c, v = .slice (some ⟨g, 0, none⟩) L.length c ∧ base ≤ g ∧ g < w.heap.size ∧ Ss w (some ⟨g, 0, none⟩) L ∧ L.length ≤ c ∧ c ≤ 9223372036854775807 ∧ (∀ j, w.frozen? ⟨g, j, none⟩ = false) := by
  have h2 := id h
  unfold OwnS at h2
  rcases id h2.2 with ⟨rfl, hz⟩ | ⟨g, cap, cur, rfl, hgb, hh, hc, hm, hsz, htake⟩
  · omega
  · obtain ⟨q, c, hv, hS, hge, e1, e2, e3⟩ := ownS_ans h
    injection hv with hq _ hcc
    subst hq hcc
    have hlt : g < w.heap.size := by
      rcases Nat.lt_or_ge g w.heap.size with h' | h'
      · exact h'
      · rw [Array.getElem?_eq_none h'] at hh; cases hh
    exact ⟨g, cap, rfl, hgb, hlt, hS, e1, e2, fun j => h2.frozenAt j⟩

set_option maxHeartbeats 4000000 in
theorem walk (q : Option Addr) (L : List (List UInt8)) (n c : Nat) (s : ByteArray) (w : World) (hL : L.length = n) (h : Ss w q L) (hz : ∀ s ∈ L, s.length ≤ 140737488351232) (hc : n ≤ c) (hcm : c ≤ 9223372036854775807) (hnil : q = none → c = 0) (hs : s.size ≤ 140737488351232) :
    Calls Try.prog 5 #[.slice q n c, .string s] w fun e w' => e = .returned (.bool true) ∧ Below w.heap.size w w' := by
  have C0 := Lib.hid (shown_any w)
  have CF := Lib.hid (fun W => few_any q n c W hc hcm)
  obtain ⟨M, hM⟩ : ∃ M, M = L.take 40 := ⟨_, rfl⟩
  obtain ⟨m, hm⟩ : ∃ m, m = min n 40 := ⟨_, rfl⟩
  rw [← hm] at CF
  have HMl := Lib.hid (show M.length = m by rw [hM, hm, List.length_take, hL]; omega)
  have HMs := Lib.hid (show Ss w q M by rw [hM]; exact h.take 40)
  have HMz := Lib.hid (show (M.getD 0 []).length ≤ 140737488351232 from by
    cases hMe : M with
    | nil => simp
    | cons a r => exact hz a (by have : a ∈ M := by rw [hMe]; simp
                                 rw [hM] at this; exact List.mem_of_mem_take this))
  have hm40 : m ≤ 40 := by omega
  have hmc : m ≤ c := by omega
  clear hM hL h hz hm
  by_cases hm0 : m = 0
  · subst hm0
    clear hnil
    go_enter Try.func5, Try.ntmps5
    go_wp2_with fail
    refine C0.out.mono ?_
    rintro e w1 ⟨rfl, hb1⟩
    go_wp2_with fail
    refine (CF.out _).mono ?_
    rintro e w2 ⟨rfl, rfl⟩
    go_wp2_with fail
    go_ret
    exact ⟨rfl, hb1⟩
  have t0 : ((m : Int) == 0) = false := by rw [beq_eq_false_iff_ne]; omega
  have hmi : (0 : Int) < (m : Int) := by omega
  obtain ⟨b, off, hq, hbl, hcl⟩ := HMs.out (by rw [HMl.out]; omega)
  subst hq
  have hMn : M ≠ [] := fun e => by have := HMl.out; rw [e] at this; exact hm0 this.symm
  have HMn := Lib.hid hMn
  have hu := hcl 0 (by rw [HMl.out]; omega)
  rw [Nat.add_zero] at hu
  obtain ⟨S, hS⟩ : ∃ S : ByteArray, S = ⟨(M.getD 0 []).toArray⟩ := ⟨_, rfl⟩
  have hM0 : M[0]'(by rw [HMl.out]; omega) = M.getD 0 [] := by simp [List.getD, HMl.out, show 0 < m by omega]
  rw [hM0, ← hS] at hu
  have hSz : S.size ≤ 140737488351232 := by rw [hS]; simpa [ByteArray.size] using HMz.out
  obtain ⟨T, hT⟩ : ∃ T : ByteArray, T = ⟨(lowL S.data.toList).toArray⟩ := ⟨_, rfl⟩
  have CL := Lib.hid (fun W => (hT ▸ LowR.lower_ref S W (by omega) hSz : Calls Try.prog 21 #[.string S] W fun e w' => e = .returned (.string T) ∧ Below W.heap.size W w'))
  have HTn := Lib.hid (show T.data.toList = lowL (M.getD 0 []) by rw [hT, hS])
  have HU := Lib.hid (fun W (hb : Below w.heap.size w W) => (by rw [hb.cell (p := ⟨b, off, none⟩) hbl]; exact hu : W.cell? ⟨b, off, none⟩ = some (.string S)))
  have HLo := Lib.hid (of_low hMn)
  clear hnil hm0 hcl hMn hM0 hS hT hu
  go_enter Try.func5, Try.ntmps5
  go_wp2_with fail
  refine C0.out.mono ?_
  rintro e w1 ⟨rfl, hb1⟩
  go_wp2_with fail
  refine (CF.out _).mono ?_
  rintro e w2 ⟨rfl, rfl⟩
  have HB2 := Lib.hid hb1
  have HO1 := Lib.hid (ownS_new w2 w2 w2.heap.size rfl (Nat.le_refl _))
  have HB1 := Lib.hid (Kit.below1 w2 (.cells #[] 9))
  have HM1 := Lib.hid ((HMs.out.keep hb1).keep HB1.out)
  have HZ := Lib.hid (show ([] : List (List UInt8)).length + m ≤ 2097152 by simp; omega)
  clear hb1 C0 CF
  go_wp2_with (first
    | (at_builtin; refine wpList_append_ss (w0 := w2) rfl (.tmp 27) (.tmp 28) rfl _ [] rfl HO1.out HB1.out _ M m c rfl HMl.out HM1.out (fun e => by cases e) HZ.out M rfl ?_
       intro v3 w3 hown3 hb3
       obtain ⟨g3, c3, hv3, hge3, hlt3, hS3, e1, e2, hfr3⟩ := own_open hown3 (by rw [HMl.out]; omega)
       rw [HMl.out] at hv3 e1
       have HS3 := Lib.hid hS3
       have HB3 := Lib.hid (HB2.out.trans (hb3.mono HB2.out.size))
       have HO2 := Lib.hid (ownS_new w3 w3 w3.heap.size rfl (Nat.le_refl _))
       have HB4 := Lib.hid (Kit.below1 w3 (.cells #[] 9))
       have HM2 := Lib.hid ((HMs.out.keep HB3.out).keep HB4.out)
       have HLt3 := Lib.hid hlt3
       clear hown3 hb3 hge3 hlt3 hS3 e1 e2 hfr3 HO1 HB1 HM1
       subst hv3)
    | (at_builtin; refine wpList_append_ss (w0 := w3) rfl (.tmp 30) (.tmp 31) rfl _ [] rfl HO2.out HB4.out _ M m c rfl HMl.out HM2.out (fun e => by cases e) HZ.out M rfl ?_
       intro v5 w5 hown5 hb5
       obtain ⟨g5, c5, hv5, hge5, hlt5, hS5, f1, f2, hfr5⟩ := own_open hown5 (by rw [HMl.out]; omega)
       rw [HMl.out] at hv5 f1
       have HS5 := Lib.hid hS5
       have HB5 := Lib.hid (HB3.out.trans (hb5.mono HB3.out.size))
       have HBx := Lib.hid hb5
       have HG5 := Lib.hid (show w3.heap.size ≤ g5 ∧ g5 < w5.heap.size from ⟨hge5, hlt5⟩)
       have HF5 := Lib.hid (hfr5 0)
       have hu5 := HU.out w5 HB5.out
       have hmc5 : m ≤ c5 := f1
       have hcm5 : c5 ≤ 9223372036854775807 := f2
       clear hown5 hb5 hge5 hlt5 hS5 f1 f2 hfr5 HO2 HB4 HM2
       subst hv5))
  refine (CL.out _).mono ?_
  rintro e w6 ⟨rfl, hb6⟩
  obtain ⟨hg5, hl5⟩ := HG5.out
  obtain ⟨bb, oo, e0, -, hc5⟩ := HS5.out (by rw [HMl.out]; omega)
  injection e0 with e0
  injection e0 with e1 e2 e3
  subst e1 e2
  have hcell5 := hc5 0 (by rw [HMl.out]; omega)
  rw [Nat.add_zero] at hcell5
  have hcell6 : w6.cell? ⟨g5, 0, none⟩ = some (.string ⟨(M[0]'(by rw [HMl.out]; omega)).toArray⟩) := by rw [hb6.cell (p := ⟨g5, 0, none⟩) hl5]; exact hcell5
  have hfr6 : w6.frozen? ⟨g5, 0, none⟩ = false := by rw [hb6.frozen (p := ⟨g5, 0, none⟩) hl5]; exact HF5.out
  have HB6 := Lib.hid (HB5.out.trans (hb6.mono HB5.out.size))
  have HB7 := Lib.hid (show Below w.heap.size w (w6.setCell ⟨g5, 0, none⟩ (.string T)) from HB6.out.setCell (by have := HB3.out.size; show w.heap.size ≤ g5; omega) _)
  have HBy := Lib.hid (show Below w3.heap.size w3 (w6.setCell ⟨g5, 0, none⟩ (.string T)) from (HBx.out.trans (hb6.mono HBx.out.size)).setCell hg5 _)
  have HS7 := Lib.hid (ss_put (HS5.out.keep hb6) 0 T _ HTn.out (by rw [HMl.out]; omega))
  have HT7 := Lib.hid (show (w6.setCell ⟨g5, 0, none⟩ (.string T)).cell? ⟨g5, 0, none⟩ = some (.string T) from World.cell?_setCell_same w6 _ _ hcell6)
  have HL7 := Lib.hid (show g5 < (w6.setCell ⟨g5, 0, none⟩ (.string T)).heap.size by have := hb6.size; simp; omega)
  have HA7 := Lib.hid (HS3.out.keep HBy.out)
  clear hb6 hg5 hl5 e3 hc5 hcell5 HB6 HBx HS5 HG5 HF5 hu5 HB5 HB3 HS3 HLt3 HBy CL
  generalize hX : (⟨(M[0]'(by rw [HMl.out]; omega)).toArray⟩ : ByteArray) = X0 at hcell6
  clear hX
  go_upto_region 8 with fail
  generalize w6.setCell ⟨g5, 0, none⟩ (.string T) = W7 at HB7 HS7 HT7 HL7 HA7 ⊢
  clear hcell6 hfr6
  have CO := Lib.hid (of_any (some ⟨b, off, none⟩) M m c W7 HMl.out (HMs.out.keep HB7.out) (by omega) hmc hcm (fun e => by cases e) HMz.out)
  have CP := Lib.hid (fun W (hb : Below W7.heap.size W7 W) => of_any (some ⟨g5, 0, none⟩) (M.set 0 (lowL (M.getD 0 []))) m c5 W (by rw [List.length_set]; exact HMl.out) (HS7.out.keep hb) (by omega) hmc5 hcm5 (fun e => by cases e) (by
    have h0 := HMl.out
    rw [List.getD_eq_getElem?_getD, List.getElem?_set_self (by omega)]
    show (lowL (M.getD 0 [])).length ≤ _
    unfold lowL
    rw [List.length_map]
    exact HMz.out))
  unfold OfP at CO CP
  rw [HLo.out.1, HLo.out.2] at CP
  obtain ⟨d, hd⟩ : ∃ d, d = ofN M := ⟨_, rfl⟩
  obtain ⟨E, hE⟩ : ∃ E : Int, E = (ofE M : Int) := ⟨_, rfl⟩
  have hKl : d.keys.length ≤ 1048576 := by rw [hd]; have := keys_few M; have := HMl.out; omega
  have hCl : d.ch.length ≤ 1048576 := by rw [hd]; have := chans_few M; have := HMl.out; omega
  rw [← hd, ← hE] at CO CP
  clear hd hE HLo
  go_wp2_with fail
  refine CO.out.mono ?_
  rintro e w8 ⟨v8, rfl, hN8, hb8⟩
  obtain ⟨qk, ck, qc, cc, rfl, hO⟩ := need_open hN8
  obtain ⟨kc, kl, ar, aw, cl⟩ := d
  simp only at hO hKl hCl ⊢
  obtain ⟨nk, hnk⟩ : ∃ nk, nk = kl.length := ⟨_, rfl⟩
  obtain ⟨nc, hnc⟩ : ∃ nc, nc = cl.length := ⟨_, rfl⟩
  rw [← hnk, ← hnc]
  rw [← hnk] at hKl
  rw [← hnc] at hCl
  have HNk := Lib.hid hnk
  have HNc := Lib.hid hnc
  have HO9 := Lib.hid (hO.keep (Kit.below1 w8 (.cells #[.int .i64 kc, .slice qk nk ck, .bool ar, .bool aw, .slice qc nc cc] 27)))
  have HC9 := Lib.hid (NCells.new w8 (.int .i64 kc) (.slice qk nk ck) (.bool ar) (.bool aw) (.slice qc nc cc) w8.heap.size rfl)
  have HB9 := Lib.hid (hb8.alloc hb8.size (.cells #[.int .i64 kc, .slice qk nk ck, .bool ar, .bool aw, .slice qc nc cc] 27))
  have HL9 := Lib.hid (show w8.heap.size < (w8.alloc (.cells #[.int .i64 kc, .slice qk nk ck, .bool ar, .bool aw, .slice qc nc cc] 27)).heap.size by simp)
  clear hN8 hb8 hO CO hnk hnc
  go_upto_region 9 with fail
  generalize w8.alloc (.cells #[.int .i64 kc, .slice qk nk ck, .bool ar, .bool aw, .slice qc nc cc] 27) = W9 at HO9 HC9 HB9 HL9 ⊢
  have CP9 := Lib.hid (CP.out W9 HB9.out)
  clear CP
  go_wp2_with fail
  refine CP9.out.mono ?_
  rintro e w10 ⟨v10, rfl, hN10, hb10⟩
  obtain ⟨rk, dk, rc, dc, rfl, hO⟩ := need_open hN10
  simp only at hO ⊢
  rw [← HNk.out, ← HNc.out]
  have HO11 := Lib.hid (hO.keep (Kit.below1 w10 (.cells #[.int .i64 kc, .slice rk nk dk, .bool ar, .bool aw, .slice rc nc dc] 27)))
  have HC11 := Lib.hid (NCells.new w10 (.int .i64 kc) (.slice rk nk dk) (.bool ar) (.bool aw) (.slice rc nc dc) w10.heap.size rfl)
  have hb710 := HB9.out.trans (hb10.mono HB9.out.size)
  have HB11 := Lib.hid (hb710.alloc hb710.size (.cells #[.int .i64 kc, .slice rk nk dk, .bool ar, .bool aw, .slice rc nc dc] 27))
  have HP11 := Lib.hid ((HO9.out.keep hb10).keep (Kit.below1 w10 (.cells #[.int .i64 kc, .slice rk nk dk, .bool ar, .bool aw, .slice rc nc dc] 27)))
  have HD11 := Lib.hid ((HC9.out.keep hb10 HL9.out).keep (Kit.below1 w10 (.cells #[.int .i64 kc, .slice rk nk dk, .bool ar, .bool aw, .slice rc nc dc] 27)) (by have := hb10.size; have := HL9.out; omega))
  clear hN10 hb10 hO hb710 HO9 HC9 HB9 HL9 CP9
  go_upto_region 10 with fail
  generalize w10.alloc (.cells #[.int .i64 kc, .slice rk nk dk, .bool ar, .bool aw, .slice rc nc dc] 27) = W11 at HO11 HC11 HB11 HP11 HD11 ⊢
  obtain ⟨a0, a1, a2, a3, a4⟩ := HD11.out
  obtain ⟨y0, y1, y2, y3, y4⟩ := HC11.out
  have CS := Lib.hid (rsame kc kc qk rk qc rc kl kl cl cl nk nk nc nc ck dk cc dc ar ar aw aw W11 HNk.out.symm HNk.out.symm HNc.out.symm HNc.out.symm HP11.out.u HO11.out.u HP11.out.s HO11.out.s hKl hCl)
  go_wp2_with fail
  refine CS.out.mono ?_
  rintro e w12 ⟨B, rfl, hB, hb12⟩
  obtain rfl : B = true := hB (by simp)
  have HB12 := Lib.hid (HB11.out.trans (hb12.mono HB11.out.size))
  have CT := Lib.hid (StrS.same_texts (some ⟨g3, 0, none⟩) (some ⟨b, off, none⟩) M M m m c3 c w12 HMl.out HMl.out (HA7.out.keep HB12.out) (HMs.out.keep (HB7.out.trans (HB12.out.mono HB7.out.size))) (by omega))
  rw [decide_eq_true (rfl : M = M)] at CT
  clear hB hb12 HO11 HC11 HB11 HP11 HD11 CS a0 a1 a2 a3 a4 y0 y1 y2 y3 y4 hKl hCl HNk HNc
  go_wp2_with fail
  refine CT.out.mono ?_
  rintro e w13 ⟨rfl, hb13⟩
  have HB13 := Lib.hid (HB12.out.trans (hb13.mono HB12.out.size))
  have hT13 : w13.cell? ⟨g5, 0, none⟩ = some (.string T) := by rw [HB13.out.cell (p := ⟨g5, 0, none⟩) HL7.out]; exact HT7.out
  have HBw := Lib.hid (HB7.out.trans (HB13.out.mono HB7.out.size))
  clear hb13 CT HB12 HT7 HL7 HA7 HS7 HB7 HB13
  have hsx : ¬ (9223372036854775807 < s.size + (⟨#[120]⟩ : ByteArray).size) := by
    have : (⟨#[120]⟩ : ByteArray).size = 1 := rfl
    omega
  go_upto_region 14 with fail
  by_cases hsix : nameL M ∈ six
  rotate_left
  · have hne : ∀ x ∈ six, T.data.toList ≠ x := fun x hx e => hsix (by
      have h := HTn.out
      rw [e] at h
      unfold nameL
      rw [← h]
      exact hx)
    obtain ⟨y0, z0⟩ := name_ne rfl (hne [103, 101, 116] (by decide))
    obtain ⟨y1, z1⟩ := name_ne rfl (hne [115, 101, 116] (by decide))
    obtain ⟨y2, z2⟩ := name_ne rfl (hne [108, 114, 97, 110, 103, 101] (by decide))
    obtain ⟨y3, z3⟩ := name_ne rfl (hne [104, 115, 101, 116] (by decide))
    obtain ⟨y4, z4⟩ := name_ne rfl (hne [122, 97, 100, 100] (by decide))
    obtain ⟨y5, z5⟩ := name_ne rfl (hne [115, 97, 100, 100] (by decide))
    clear hne hsix HTn
    go_wp2_with fail
    go_ret
    exact ⟨rfl, HBw.out⟩
  have hT6 := hsix
  unfold six nameL at hT6
  rw [← HTn.out] at hT6
  simp only [List.mem_cons, List.not_mem_nil, or_false] at hT6
  have HSix := Lib.hid hsix
  have HT6 := Lib.hid hT6
  clear hT6
  -- what comes behind
  have HO1 := Lib.hid (ownS_new w13 w13 w13.heap.size rfl (Nat.le_refl _))
  have HB1 := Lib.hid (Kit.below1 w13 (.cells #[] 9))
  have HM1 := Lib.hid ((HMs.out.keep HBw.out).keep HB1.out)
  obtain ⟨X, hX⟩ : ∃ X, X = s.data.toList := ⟨_, rfl⟩
  have HX := Lib.hid hX.symm
  have HSz := Lib.hid (show M.length ≤ 1048576 by rw [HMl.out]; omega)
  have HHd := Lib.hid (fun y : List UInt8 => show (M ++ [y]).getD 0 [] = M.getD 0 [] by
    have h0 := HMl.out
    rw [List.getD_eq_getElem?_getD, List.getD_eq_getElem?_getD, List.getElem?_append_left (by omega)])
  have HLl := Lib.hid (fun y : List UInt8 => show (M ++ [y]).length = m + 1 by rw [List.length_append, HMl.out]; rfl)
  have hEe := of_last_e HMn.out X (X ++ [120])
  have HNn := Lib.hid (fun h2 : 2 ≤ m => of_last_n (M := M) (by rw [HMl.out]; exact h2) X (X ++ [120]) HSix.out)
  obtain ⟨E, hE⟩ : ∃ E : Int, E = (ofE (M ++ [X]) : Int) := ⟨_, rfl⟩
  obtain ⟨d1, hd1⟩ : ∃ d, d = ofN (M ++ [X]) := ⟨_, rfl⟩
  obtain ⟨d2, hd2⟩ : ∃ d, d = ofN (M ++ [X ++ [120]]) := ⟨_, rfl⟩
  rw [← hd1, ← hd2] at HNn
  have hK1 : d1.keys.length ≤ 1048576 := by rw [hd1]; have := keys_few (M ++ [X]); have := HLl.out X; omega
  have hC1 : d1.ch.length ≤ 1048576 := by rw [hd1]; have := chans_few (M ++ [X]); have := HLl.out X; omega
  have CO := Lib.hid (fun (W : World) (g cg : Nat) (hS : Ss W (some ⟨g, 0, none⟩) (M ++ [X])) (h1 : m + 1 ≤ cg) (h2 : cg ≤ 9223372036854775807) => of_any (some ⟨g, 0, none⟩) (M ++ [X]) (m + 1) cg W (HLl.out X) hS (by omega) h1 h2 (fun e => by cases e) (by rw [HHd.out X]; exact HMz.out))
  have CP := Lib.hid (fun (W : World) (g cg : Nat) (hS : Ss W (some ⟨g, 0, none⟩) (M ++ [X ++ [120]])) (h1 : m + 1 ≤ cg) (h2 : cg ≤ 9223372036854775807) => of_any (some ⟨g, 0, none⟩) (M ++ [X ++ [120]]) (m + 1) cg W (HLl.out (X ++ [120])) hS (by omega) h1 h2 (fun e => by cases e) (by rw [HHd.out (X ++ [120])]; exact HMz.out))
  unfold OfP at CO CP
  rw [← hd1, ← hE] at CO
  rw [← hd2, ← hEe, ← hE] at CP
  obtain ⟨V, hV⟩ : ∃ V : ByteArray, V = s ++ ⟨#[120]⟩ := ⟨_, rfl⟩
  have hadd : ∀ W, (Op.stringOp .add s ⟨#[120]⟩).run Try.prog W = .ok (.string V) W := fun W => by
    rw [hV]
    exact run_string_add_sum W s ⟨#[120]⟩ (by omega)
  have HVd := Lib.hid (show V.data.toList = X ++ [120] by rw [hV, ← HX.out]; exact app_data s ⟨#[120]⟩)
  clear hX hd1 hd2 hE hEe hV hsix
  obtain ⟨l, hl⟩ : ∃ l, l = m + 1 := ⟨_, rfl⟩
  rw [← hl] at CO CP
  obtain ⟨hl1, hml, hm0'⟩ := less_one l m hl
  have HL := Lib.hid hl
  clear hl
  have tst := one_or m hmi
  rcases HT6.out with h6 | h6 | h6 | h6 | h6 | h6
  · obtain rfl : T = ⟨#[103, 101, 116]⟩ := ByteArray.ext (Array.toList_inj.1 h6)
    clear h6 HTn HT6
    go_upto_region 15 with fail
    go_wp2_with (first
      | (at_builtin; refine wpList_append_ss (w0 := w13) rfl (.tmp 104) (.tmp 105) rfl _ [] rfl HO1.out HB1.out _ M m c rfl HMl.out HM1.out (fun e => by cases e) HZ.out M rfl ?_
         intro v3 w14 hown3 hb3
         have HOa := Lib.hid (hown3.keep (Kit.below1 w14 (.cells #[.string s] 9)))
         have HBa := Lib.hid (hb3.alloc hb3.size (.cells #[.string s] 9))
         have HCa := Lib.hid (show (w14.alloc (.cells #[.string s] 9)).cell? ⟨w14.heap.size, 0, none⟩ = some (.string s) by simp [World.cell?_alloc_mark])
         clear hown3 hb3 HO1 HB1 HM1)
      | (at_builtin; refine wpList_append_s (w0 := w13) rfl (.tmp 106) (.tmp 108) rfl v3 M rfl HOa.out HBa.out w14.heap.size s X 1 rfl HX.out HCa.out HSz.out ?_
         intro v5 w16 hown5 hb5
         obtain ⟨g, cg, hv5, hge5, hlt5, hS5, f1, f2, hfr5⟩ := own_open hown5 (by rw [HLl.out X]; exact Nat.succ_pos _)
         rw [HLl.out X, ← HL.out] at hv5
         rw [HLl.out X, ← HL.out] at f1
         have CO16 := Lib.hid (CO.out w16 g cg hS5 f1 f2)
         have HS16 := Lib.hid hS5
         have HG16 := Lib.hid (show w13.heap.size ≤ g ∧ g < w16.heap.size from ⟨hge5, hlt5⟩)
         have HF16 := Lib.hid (hfr5 m)
         have HB16 := Lib.hid hb5
         have hcg1 : l ≤ cg := f1
         have hcg2 : cg ≤ 9223372036854775807 := f2
         clear hown5 hb5 hge5 hlt5 hS5 f1 f2 hfr5 HOa HBa HCa CO
         subst hv5))
    refine CO16.out.mono ?_
    rintro e w17 ⟨v17, rfl, hN17, hb17⟩
    obtain ⟨q1, ck1, p1, cc1, rfl, hO⟩ := need_open hN17
    obtain ⟨kc1, kl1, ar1, aw1, cl1⟩ := d1
    simp only at hO hK1 hC1 ⊢
    obtain ⟨nk1, hnk1⟩ : ∃ nk1, nk1 = kl1.length := ⟨_, rfl⟩
    obtain ⟨nc1, hnc1⟩ : ∃ nc1, nc1 = cl1.length := ⟨_, rfl⟩
    rw [← hnk1, ← hnc1]
    rw [← hnk1] at hK1
    rw [← hnc1] at hC1
    have HNk1 := Lib.hid hnk1
    have HNc1 := Lib.hid hnc1
    have HO18 := Lib.hid (hO.keep (Kit.below1 w17 (.cells #[.int .i64 kc1, .slice q1 nk1 ck1, .bool ar1, .bool aw1, .slice p1 nc1 cc1] 27)))
    have HC18 := Lib.hid (NCells.new w17 (.int .i64 kc1) (.slice q1 nk1 ck1) (.bool ar1) (.bool aw1) (.slice p1 nc1 cc1) w17.heap.size rfl)
    have HBz := Lib.hid (hb17.alloc hb17.size (.cells #[.int .i64 kc1, .slice q1 nk1 ck1, .bool ar1, .bool aw1, .slice p1 nc1 cc1] 27))
    have HL18 := Lib.hid (show w16.heap.size ≤ w17.heap.size ∧ w17.heap.size < (w17.alloc (.cells #[.int .i64 kc1, .slice q1 nk1 ck1, .bool ar1, .bool aw1, .slice p1 nc1 cc1] 27)).heap.size from ⟨hb17.size, by simp⟩)
    clear hN17 hb17 hO CO16 hnk1 hnc1
    go_upto_region 17 with fail
    generalize w17.alloc (.cells #[.int .i64 kc1, .slice q1 nk1 ck1, .bool ar1, .bool aw1, .slice p1 nc1 cc1] 27) = W18 at HO18 HC18 HBz HL18 ⊢
    have HS18 := Lib.hid (HS16.out.keep HBz.out)
    have hcm18 := last_cell HS18.out HMl.out
    have hfm18 : W18.frozen? ⟨g, m, none⟩ = false := by rw [HBz.out.frozen (p := ⟨g, m, none⟩) HG16.out.2]; exact HF16.out
    have HS19 := Lib.hid (put_last HS18.out HMl.out V (X ++ [120]) HVd.out)
    have HB19 := Lib.hid (show Below w13.heap.size w13 (W18.setCell ⟨g, m, none⟩ (.string V)) from (HB16.out.trans (HBz.out.mono HB16.out.size)).setCell HG16.out.1 _)
    have hoth : ∀ j, w16.heap.size ≤ j → (W18.setCell ⟨g, m, none⟩ (.string V)).heap[j]? = W18.heap[j]? := fun j hj => heap_setCell_other _ _ _ _ (other_block HG16.out.2 hj)
    have HO19 := Lib.hid (nopen_high HO18.out hoth (by simp))
    have HC19 := Lib.hid (ncells_high HC18.out hoth HL18.out.1)
    have HL19 := Lib.hid (show w17.heap.size < (W18.setCell ⟨g, m, none⟩ (.string V)).heap.size by simpa using HL18.out.2)
    clear hoth HS16 HG16 HF16 HB16 HBz HS18 HO18 HC18 HL18
    go_upto_region 18 with fail
    generalize W18.setCell ⟨g, m, none⟩ (.string V) = W19 at HS19 HB19 HO19 HC19 HL19 ⊢
    have CP19 := Lib.hid (CP.out W19 g cg HS19.out hcg1 hcg2)
    clear hcm18 hfm18 CP HS19
    go_wp2_with fail
    refine CP19.out.mono ?_
    rintro e w20 ⟨v20, rfl, hN20, hb20⟩
    obtain ⟨q2, ck2, p2, cc2, rfl, hO⟩ := need_open hN20
    obtain ⟨kc2, kl2, ar2, aw2, cl2⟩ := d2
    simp only at hO ⊢
    obtain ⟨nk2, hnk2⟩ : ∃ nk2, nk2 = kl2.length := ⟨_, rfl⟩
    obtain ⟨nc2, hnc2⟩ : ∃ nc2, nc2 = cl2.length := ⟨_, rfl⟩
    rw [← hnk2, ← hnc2]
    have HNk2 := Lib.hid hnk2
    have HNc2 := Lib.hid hnc2
    have HO21 := Lib.hid (hO.keep (Kit.below1 w20 (.cells #[.int .i64 kc2, .slice q2 nk2 ck2, .bool ar2, .bool aw2, .slice p2 nc2 cc2] 27)))
    have HC21 := Lib.hid (NCells.new w20 (.int .i64 kc2) (.slice q2 nk2 ck2) (.bool ar2) (.bool aw2) (.slice p2 nc2 cc2) w20.heap.size rfl)
    have HP21 := Lib.hid ((HO19.out.keep hb20).keep (Kit.below1 w20 (.cells #[.int .i64 kc2, .slice q2 nk2 ck2, .bool ar2, .bool aw2, .slice p2 nc2 cc2] 27)))
    have HD21 := Lib.hid ((HC19.out.keep hb20 HL19.out).keep (Kit.below1 w20 (.cells #[.int .i64 kc2, .slice q2 nk2 ck2, .bool ar2, .bool aw2, .slice p2 nc2 cc2] 27)) (Nat.lt_of_lt_of_le HL19.out hb20.size))
    have HB21 := Lib.hid ((HB19.out.trans (hb20.mono HB19.out.size)).alloc (HB19.out.trans (hb20.mono HB19.out.size)).size (.cells #[.int .i64 kc2, .slice q2 nk2 ck2, .bool ar2, .bool aw2, .slice p2 nc2 cc2] 27))
    clear hN20 hb20 hO CP19 hnk2 hnc2 HO19 HC19 HL19 HB19
    go_upto_region 19 with fail
    generalize w20.alloc (.cells #[.int .i64 kc2, .slice q2 nk2 ck2, .bool ar2, .bool aw2, .slice p2 nc2 cc2] 27) = W21 at HO21 HC21 HP21 HD21 HB21 ⊢
    obtain ⟨a0, a1, a2, a3, a4⟩ := HD21.out
    obtain ⟨y0, y1, y2, y3, y4⟩ := HC21.out
    have CS := Lib.hid (rsame kc1 kc2 q1 q2 p1 p2 kl1 kl2 cl1 cl2 nk1 nk2 nc1 nc2 ck1 ck2 cc1 cc2 ar1 ar2 aw1 aw2 W21 HNk1.out.symm HNk2.out.symm HNc1.out.symm HNc2.out.symm HP21.out.u HO21.out.u HP21.out.s HO21.out.s hK1 hC1)
    go_wp2_with fail
    refine CS.out.mono ?_
    rintro e w22 ⟨B, rfl, hB, hb22⟩
    have HBF := Lib.hid (HBw.out.trans ((HB21.out.trans (hb22.mono HB21.out.size)).mono HBw.out.size))
    have HBt := Lib.hid hB
    clear hB hb22 HO21 HC21 HP21 HD21 HB21 CS a0 a1 a2 a3 a4 y0 y1 y2 y3 y4 hK1 hC1
    rcases tst with h1 | h2
    · have hm1 : ((m : Int) == 1) = true := by rw [beq_iff_eq, h1]; rfl
      clear h1
      cases B
      · go_wp2_with fail
        go_ret
        exact ⟨rfl, HBF.out⟩
      · go_wp2_with fail
        go_ret
        exact ⟨rfl, HBF.out⟩
    · have hd := HNn.out h2
      injection hd with x1 x2 x3 x4 x5
      obtain rfl : B = true := HBt.out ⟨x1, x2, x3, x4, x5⟩
      clear h2 x1 x2 x3 x4 x5
      go_wp2_with fail
      go_ret
      exact ⟨rfl, HBF.out⟩
  · obtain rfl : T = ⟨#[115, 101, 116]⟩ := ByteArray.ext (Array.toList_inj.1 h6)
    clear h6 HTn HT6
    go_upto_region 15 with fail
    go_wp2_with (first
      | (at_builtin; refine wpList_append_ss (w0 := w13) rfl (.tmp 104) (.tmp 105) rfl _ [] rfl HO1.out HB1.out _ M m c rfl HMl.out HM1.out (fun e => by cases e) HZ.out M rfl ?_
         intro v3 w14 hown3 hb3
         have HOa := Lib.hid (hown3.keep (Kit.below1 w14 (.cells #[.string s] 9)))
         have HBa := Lib.hid (hb3.alloc hb3.size (.cells #[.string s] 9))
         have HCa := Lib.hid (show (w14.alloc (.cells #[.string s] 9)).cell? ⟨w14.heap.size, 0, none⟩ = some (.string s) by simp [World.cell?_alloc_mark])
         clear hown3 hb3 HO1 HB1 HM1)
      | (at_builtin; refine wpList_append_s (w0 := w13) rfl (.tmp 106) (.tmp 108) rfl v3 M rfl HOa.out HBa.out w14.heap.size s X 1 rfl HX.out HCa.out HSz.out ?_
         intro v5 w16 hown5 hb5
         obtain ⟨g, cg, hv5, hge5, hlt5, hS5, f1, f2, hfr5⟩ := own_open hown5 (by rw [HLl.out X]; exact Nat.succ_pos _)
         rw [HLl.out X, ← HL.out] at hv5
         rw [HLl.out X, ← HL.out] at f1
         have CO16 := Lib.hid (CO.out w16 g cg hS5 f1 f2)
         have HS16 := Lib.hid hS5
         have HG16 := Lib.hid (show w13.heap.size ≤ g ∧ g < w16.heap.size from ⟨hge5, hlt5⟩)
         have HF16 := Lib.hid (hfr5 m)
         have HB16 := Lib.hid hb5
         have hcg1 : l ≤ cg := f1
         have hcg2 : cg ≤ 9223372036854775807 := f2
         clear hown5 hb5 hge5 hlt5 hS5 f1 f2 hfr5 HOa HBa HCa CO
         subst hv5))
    refine CO16.out.mono ?_
    rintro e w17 ⟨v17, rfl, hN17, hb17⟩
    obtain ⟨q1, ck1, p1, cc1, rfl, hO⟩ := need_open hN17
    obtain ⟨kc1, kl1, ar1, aw1, cl1⟩ := d1
    simp only at hO hK1 hC1 ⊢
    obtain ⟨nk1, hnk1⟩ : ∃ nk1, nk1 = kl1.length := ⟨_, rfl⟩
    obtain ⟨nc1, hnc1⟩ : ∃ nc1, nc1 = cl1.length := ⟨_, rfl⟩
    rw [← hnk1, ← hnc1]
    rw [← hnk1] at hK1
    rw [← hnc1] at hC1
    have HNk1 := Lib.hid hnk1
    have HNc1 := Lib.hid hnc1
    have HO18 := Lib.hid (hO.keep (Kit.below1 w17 (.cells #[.int .i64 kc1, .slice q1 nk1 ck1, .bool ar1, .bool aw1, .slice p1 nc1 cc1] 27)))
    have HC18 := Lib.hid (NCells.new w17 (.int .i64 kc1) (.slice q1 nk1 ck1) (.bool ar1) (.bool aw1) (.slice p1 nc1 cc1) w17.heap.size rfl)
    have HBz := Lib.hid (hb17.alloc hb17.size (.cells #[.int .i64 kc1, .slice q1 nk1 ck1, .bool ar1, .bool aw1, .slice p1 nc1 cc1] 27))
    have HL18 := Lib.hid (show w16.heap.size ≤ w17.heap.size ∧ w17.heap.size < (w17.alloc (.cells #[.int .i64 kc1, .slice q1 nk1 ck1, .bool ar1, .bool aw1, .slice p1 nc1 cc1] 27)).heap.size from ⟨hb17.size, by simp⟩)
    clear hN17 hb17 hO CO16 hnk1 hnc1
    go_upto_region 17 with fail
    generalize w17.alloc (.cells #[.int .i64 kc1, .slice q1 nk1 ck1, .bool ar1, .bool aw1, .slice p1 nc1 cc1] 27) = W18 at HO18 HC18 HBz HL18 ⊢
    have HS18 := Lib.hid (HS16.out.keep HBz.out)
    have hcm18 := last_cell HS18.out HMl.out
    have hfm18 : W18.frozen? ⟨g, m, none⟩ = false := by rw [HBz.out.frozen (p := ⟨g, m, none⟩) HG16.out.2]; exact HF16.out
    have HS19 := Lib.hid (put_last HS18.out HMl.out V (X ++ [120]) HVd.out)
    have HB19 := Lib.hid (show Below w13.heap.size w13 (W18.setCell ⟨g, m, none⟩ (.string V)) from (HB16.out.trans (HBz.out.mono HB16.out.size)).setCell HG16.out.1 _)
    have hoth : ∀ j, w16.heap.size ≤ j → (W18.setCell ⟨g, m, none⟩ (.string V)).heap[j]? = W18.heap[j]? := fun j hj => heap_setCell_other _ _ _ _ (other_block HG16.out.2 hj)
    have HO19 := Lib.hid (nopen_high HO18.out hoth (by simp))
    have HC19 := Lib.hid (ncells_high HC18.out hoth HL18.out.1)
    have HL19 := Lib.hid (show w17.heap.size < (W18.setCell ⟨g, m, none⟩ (.string V)).heap.size by simpa using HL18.out.2)
    clear hoth HS16 HG16 HF16 HB16 HBz HS18 HO18 HC18 HL18
    go_upto_region 18 with fail
    generalize W18.setCell ⟨g, m, none⟩ (.string V) = W19 at HS19 HB19 HO19 HC19 HL19 ⊢
    have CP19 := Lib.hid (CP.out W19 g cg HS19.out hcg1 hcg2)
    clear hcm18 hfm18 CP HS19
    go_wp2_with fail
    refine CP19.out.mono ?_
    rintro e w20 ⟨v20, rfl, hN20, hb20⟩
    obtain ⟨q2, ck2, p2, cc2, rfl, hO⟩ := need_open hN20
    obtain ⟨kc2, kl2, ar2, aw2, cl2⟩ := d2
    simp only at hO ⊢
    obtain ⟨nk2, hnk2⟩ : ∃ nk2, nk2 = kl2.length := ⟨_, rfl⟩
    obtain ⟨nc2, hnc2⟩ : ∃ nc2, nc2 = cl2.length := ⟨_, rfl⟩
    rw [← hnk2, ← hnc2]
    have HNk2 := Lib.hid hnk2
    have HNc2 := Lib.hid hnc2
    have HO21 := Lib.hid (hO.keep (Kit.below1 w20 (.cells #[.int .i64 kc2, .slice q2 nk2 ck2, .bool ar2, .bool aw2, .slice p2 nc2 cc2] 27)))
    have HC21 := Lib.hid (NCells.new w20 (.int .i64 kc2) (.slice q2 nk2 ck2) (.bool ar2) (.bool aw2) (.slice p2 nc2 cc2) w20.heap.size rfl)
    have HP21 := Lib.hid ((HO19.out.keep hb20).keep (Kit.below1 w20 (.cells #[.int .i64 kc2, .slice q2 nk2 ck2, .bool ar2, .bool aw2, .slice p2 nc2 cc2] 27)))
    have HD21 := Lib.hid ((HC19.out.keep hb20 HL19.out).keep (Kit.below1 w20 (.cells #[.int .i64 kc2, .slice q2 nk2 ck2, .bool ar2, .bool aw2, .slice p2 nc2 cc2] 27)) (Nat.lt_of_lt_of_le HL19.out hb20.size))
    have HB21 := Lib.hid ((HB19.out.trans (hb20.mono HB19.out.size)).alloc (HB19.out.trans (hb20.mono HB19.out.size)).size (.cells #[.int .i64 kc2, .slice q2 nk2 ck2, .bool ar2, .bool aw2, .slice p2 nc2 cc2] 27))
    clear hN20 hb20 hO CP19 hnk2 hnc2 HO19 HC19 HL19 HB19
    go_upto_region 19 with fail
    generalize w20.alloc (.cells #[.int .i64 kc2, .slice q2 nk2 ck2, .bool ar2, .bool aw2, .slice p2 nc2 cc2] 27) = W21 at HO21 HC21 HP21 HD21 HB21 ⊢
    obtain ⟨a0, a1, a2, a3, a4⟩ := HD21.out
    obtain ⟨y0, y1, y2, y3, y4⟩ := HC21.out
    have CS := Lib.hid (rsame kc1 kc2 q1 q2 p1 p2 kl1 kl2 cl1 cl2 nk1 nk2 nc1 nc2 ck1 ck2 cc1 cc2 ar1 ar2 aw1 aw2 W21 HNk1.out.symm HNk2.out.symm HNc1.out.symm HNc2.out.symm HP21.out.u HO21.out.u HP21.out.s HO21.out.s hK1 hC1)
    go_wp2_with fail
    refine CS.out.mono ?_
    rintro e w22 ⟨B, rfl, hB, hb22⟩
    have HBF := Lib.hid (HBw.out.trans ((HB21.out.trans (hb22.mono HB21.out.size)).mono HBw.out.size))
    have HBt := Lib.hid hB
    clear hB hb22 HO21 HC21 HP21 HD21 HB21 CS a0 a1 a2 a3 a4 y0 y1 y2 y3 y4 hK1 hC1
    rcases tst with h1 | h2
    · have hm1 : ((m : Int) == 1) = true := by rw [beq_iff_eq, h1]; rfl
      clear h1
      cases B
      · go_wp2_with fail
        go_ret
        exact ⟨rfl, HBF.out⟩
      · go_wp2_with fail
        go_ret
        exact ⟨rfl, HBF.out⟩
    · have hd := HNn.out h2
      injection hd with x1 x2 x3 x4 x5
      obtain rfl : B = true := HBt.out ⟨x1, x2, x3, x4, x5⟩
      clear h2 x1 x2 x3 x4 x5
      go_wp2_with fail
      go_ret
      exact ⟨rfl, HBF.out⟩
  · obtain rfl : T = ⟨#[108, 114, 97, 110, 103, 101]⟩ := ByteArray.ext (Array.toList_inj.1 h6)
    clear h6 HTn HT6
    go_upto_region 15 with fail
    go_wp2_with (first
      | (at_builtin; refine wpList_append_ss (w0 := w13) rfl (.tmp 104) (.tmp 105) rfl _ [] rfl HO1.out HB1.out _ M m c rfl HMl.out HM1.out (fun e => by cases e) HZ.out M rfl ?_
         intro v3 w14 hown3 hb3
         have HOa := Lib.hid (hown3.keep (Kit.below1 w14 (.cells #[.string s] 9)))
         have HBa := Lib.hid (hb3.alloc hb3.size (.cells #[.string s] 9))
         have HCa := Lib.hid (show (w14.alloc (.cells #[.string s] 9)).cell? ⟨w14.heap.size, 0, none⟩ = some (.string s) by simp [World.cell?_alloc_mark])
         clear hown3 hb3 HO1 HB1 HM1)
      | (at_builtin; refine wpList_append_s (w0 := w13) rfl (.tmp 106) (.tmp 108) rfl v3 M rfl HOa.out HBa.out w14.heap.size s X 1 rfl HX.out HCa.out HSz.out ?_
         intro v5 w16 hown5 hb5
         obtain ⟨g, cg, hv5, hge5, hlt5, hS5, f1, f2, hfr5⟩ := own_open hown5 (by rw [HLl.out X]; exact Nat.succ_pos _)
         rw [HLl.out X, ← HL.out] at hv5
         rw [HLl.out X, ← HL.out] at f1
         have CO16 := Lib.hid (CO.out w16 g cg hS5 f1 f2)
         have HS16 := Lib.hid hS5
         have HG16 := Lib.hid (show w13.heap.size ≤ g ∧ g < w16.heap.size from ⟨hge5, hlt5⟩)
         have HF16 := Lib.hid (hfr5 m)
         have HB16 := Lib.hid hb5
         have hcg1 : l ≤ cg := f1
         have hcg2 : cg ≤ 9223372036854775807 := f2
         clear hown5 hb5 hge5 hlt5 hS5 f1 f2 hfr5 HOa HBa HCa CO
         subst hv5))
    refine CO16.out.mono ?_
    rintro e w17 ⟨v17, rfl, hN17, hb17⟩
    obtain ⟨q1, ck1, p1, cc1, rfl, hO⟩ := need_open hN17
    obtain ⟨kc1, kl1, ar1, aw1, cl1⟩ := d1
    simp only at hO hK1 hC1 ⊢
    obtain ⟨nk1, hnk1⟩ : ∃ nk1, nk1 = kl1.length := ⟨_, rfl⟩
    obtain ⟨nc1, hnc1⟩ : ∃ nc1, nc1 = cl1.length := ⟨_, rfl⟩
    rw [← hnk1, ← hnc1]
    rw [← hnk1] at hK1
    rw [← hnc1] at hC1
    have HNk1 := Lib.hid hnk1
    have HNc1 := Lib.hid hnc1
    have HO18 := Lib.hid (hO.keep (Kit.below1 w17 (.cells #[.int .i64 kc1, .slice q1 nk1 ck1, .bool ar1, .bool aw1, .slice p1 nc1 cc1] 27)))
    have HC18 := Lib.hid (NCells.new w17 (.int .i64 kc1) (.slice q1 nk1 ck1) (.bool ar1) (.bool aw1) (.slice p1 nc1 cc1) w17.heap.size rfl)
    have HBz := Lib.hid (hb17.alloc hb17.size (.cells #[.int .i64 kc1, .slice q1 nk1 ck1, .bool ar1, .bool aw1, .slice p1 nc1 cc1] 27))
    have HL18 := Lib.hid (show w16.heap.size ≤ w17.heap.size ∧ w17.heap.size < (w17.alloc (.cells #[.int .i64 kc1, .slice q1 nk1 ck1, .bool ar1, .bool aw1, .slice p1 nc1 cc1] 27)).heap.size from ⟨hb17.size, by simp⟩)
    clear hN17 hb17 hO CO16 hnk1 hnc1
    go_upto_region 17 with fail
    generalize w17.alloc (.cells #[.int .i64 kc1, .slice q1 nk1 ck1, .bool ar1, .bool aw1, .slice p1 nc1 cc1] 27) = W18 at HO18 HC18 HBz HL18 ⊢
    have HS18 := Lib.hid (HS16.out.keep HBz.out)
    have hcm18 := last_cell HS18.out HMl.out
    have hfm18 : W18.frozen? ⟨g, m, none⟩ = false := by rw [HBz.out.frozen (p := ⟨g, m, none⟩) HG16.out.2]; exact HF16.out
    have HS19 := Lib.hid (put_last HS18.out HMl.out V (X ++ [120]) HVd.out)
    have HB19 := Lib.hid (show Below w13.heap.size w13 (W18.setCell ⟨g, m, none⟩ (.string V)) from (HB16.out.trans (HBz.out.mono HB16.out.size)).setCell HG16.out.1 _)
    have hoth : ∀ j, w16.heap.size ≤ j → (W18.setCell ⟨g, m, none⟩ (.string V)).heap[j]? = W18.heap[j]? := fun j hj => heap_setCell_other _ _ _ _ (other_block HG16.out.2 hj)
    have HO19 := Lib.hid (nopen_high HO18.out hoth (by simp))
    have HC19 := Lib.hid (ncells_high HC18.out hoth HL18.out.1)
    have HL19 := Lib.hid (show w17.heap.size < (W18.setCell ⟨g, m, none⟩ (.string V)).heap.size by simpa using HL18.out.2)
    clear hoth HS16 HG16 HF16 HB16 HBz HS18 HO18 HC18 HL18
    go_upto_region 18 with fail
    generalize W18.setCell ⟨g, m, none⟩ (.string V) = W19 at HS19 HB19 HO19 HC19 HL19 ⊢
    have CP19 := Lib.hid (CP.out W19 g cg HS19.out hcg1 hcg2)
    clear hcm18 hfm18 CP HS19
    go_wp2_with fail
    refine CP19.out.mono ?_
    rintro e w20 ⟨v20, rfl, hN20, hb20⟩
    obtain ⟨q2, ck2, p2, cc2, rfl, hO⟩ := need_open hN20
    obtain ⟨kc2, kl2, ar2, aw2, cl2⟩ := d2
    simp only at hO ⊢
    obtain ⟨nk2, hnk2⟩ : ∃ nk2, nk2 = kl2.length := ⟨_, rfl⟩
    obtain ⟨nc2, hnc2⟩ : ∃ nc2, nc2 = cl2.length := ⟨_, rfl⟩
    rw [← hnk2, ← hnc2]
    have HNk2 := Lib.hid hnk2
    have HNc2 := Lib.hid hnc2
    have HO21 := Lib.hid (hO.keep (Kit.below1 w20 (.cells #[.int .i64 kc2, .slice q2 nk2 ck2, .bool ar2, .bool aw2, .slice p2 nc2 cc2] 27)))
    have HC21 := Lib.hid (NCells.new w20 (.int .i64 kc2) (.slice q2 nk2 ck2) (.bool ar2) (.bool aw2) (.slice p2 nc2 cc2) w20.heap.size rfl)
    have HP21 := Lib.hid ((HO19.out.keep hb20).keep (Kit.below1 w20 (.cells #[.int .i64 kc2, .slice q2 nk2 ck2, .bool ar2, .bool aw2, .slice p2 nc2 cc2] 27)))
    have HD21 := Lib.hid ((HC19.out.keep hb20 HL19.out).keep (Kit.below1 w20 (.cells #[.int .i64 kc2, .slice q2 nk2 ck2, .bool ar2, .bool aw2, .slice p2 nc2 cc2] 27)) (Nat.lt_of_lt_of_le HL19.out hb20.size))
    have HB21 := Lib.hid ((HB19.out.trans (hb20.mono HB19.out.size)).alloc (HB19.out.trans (hb20.mono HB19.out.size)).size (.cells #[.int .i64 kc2, .slice q2 nk2 ck2, .bool ar2, .bool aw2, .slice p2 nc2 cc2] 27))
    clear hN20 hb20 hO CP19 hnk2 hnc2 HO19 HC19 HL19 HB19
    go_upto_region 19 with fail
    generalize w20.alloc (.cells #[.int .i64 kc2, .slice q2 nk2 ck2, .bool ar2, .bool aw2, .slice p2 nc2 cc2] 27) = W21 at HO21 HC21 HP21 HD21 HB21 ⊢
    obtain ⟨a0, a1, a2, a3, a4⟩ := HD21.out
    obtain ⟨y0, y1, y2, y3, y4⟩ := HC21.out
    have CS := Lib.hid (rsame kc1 kc2 q1 q2 p1 p2 kl1 kl2 cl1 cl2 nk1 nk2 nc1 nc2 ck1 ck2 cc1 cc2 ar1 ar2 aw1 aw2 W21 HNk1.out.symm HNk2.out.symm HNc1.out.symm HNc2.out.symm HP21.out.u HO21.out.u HP21.out.s HO21.out.s hK1 hC1)
    go_wp2_with fail
    refine CS.out.mono ?_
    rintro e w22 ⟨B, rfl, hB, hb22⟩
    have HBF := Lib.hid (HBw.out.trans ((HB21.out.trans (hb22.mono HB21.out.size)).mono HBw.out.size))
    have HBt := Lib.hid hB
    clear hB hb22 HO21 HC21 HP21 HD21 HB21 CS a0 a1 a2 a3 a4 y0 y1 y2 y3 y4 hK1 hC1
    rcases tst with h1 | h2
    · have hm1 : ((m : Int) == 1) = true := by rw [beq_iff_eq, h1]; rfl
      clear h1
      cases B
      · go_wp2_with fail
        go_ret
        exact ⟨rfl, HBF.out⟩
      · go_wp2_with fail
        go_ret
        exact ⟨rfl, HBF.out⟩
    · have hd := HNn.out h2
      injection hd with x1 x2 x3 x4 x5
      obtain rfl : B = true := HBt.out ⟨x1, x2, x3, x4, x5⟩
      clear h2 x1 x2 x3 x4 x5
      go_wp2_with fail
      go_ret
      exact ⟨rfl, HBF.out⟩
  · obtain rfl : T = ⟨#[104, 115, 101, 116]⟩ := ByteArray.ext (Array.toList_inj.1 h6)
    clear h6 HTn HT6
    go_upto_region 15 with fail
    go_wp2_with (first
      | (at_builtin; refine wpList_append_ss (w0 := w13) rfl (.tmp 104) (.tmp 105) rfl _ [] rfl HO1.out HB1.out _ M m c rfl HMl.out HM1.out (fun e => by cases e) HZ.out M rfl ?_
         intro v3 w14 hown3 hb3
         have HOa := Lib.hid (hown3.keep (Kit.below1 w14 (.cells #[.string s] 9)))
         have HBa := Lib.hid (hb3.alloc hb3.size (.cells #[.string s] 9))
         have HCa := Lib.hid (show (w14.alloc (.cells #[.string s] 9)).cell? ⟨w14.heap.size, 0, none⟩ = some (.string s) by simp [World.cell?_alloc_mark])
         clear hown3 hb3 HO1 HB1 HM1)
      | (at_builtin; refine wpList_append_s (w0 := w13) rfl (.tmp 106) (.tmp 108) rfl v3 M rfl HOa.out HBa.out w14.heap.size s X 1 rfl HX.out HCa.out HSz.out ?_
         intro v5 w16 hown5 hb5
         obtain ⟨g, cg, hv5, hge5, hlt5, hS5, f1, f2, hfr5⟩ := own_open hown5 (by rw [HLl.out X]; exact Nat.succ_pos _)
         rw [HLl.out X, ← HL.out] at hv5
         rw [HLl.out X, ← HL.out] at f1
         have CO16 := Lib.hid (CO.out w16 g cg hS5 f1 f2)
         have HS16 := Lib.hid hS5
         have HG16 := Lib.hid (show w13.heap.size ≤ g ∧ g < w16.heap.size from ⟨hge5, hlt5⟩)
         have HF16 := Lib.hid (hfr5 m)
         have HB16 := Lib.hid hb5
         have hcg1 : l ≤ cg := f1
         have hcg2 : cg ≤ 9223372036854775807 := f2
         clear hown5 hb5 hge5 hlt5 hS5 f1 f2 hfr5 HOa HBa HCa CO
         subst hv5))
    refine CO16.out.mono ?_
    rintro e w17 ⟨v17, rfl, hN17, hb17⟩
    obtain ⟨q1, ck1, p1, cc1, rfl, hO⟩ := need_open hN17
    obtain ⟨kc1, kl1, ar1, aw1, cl1⟩ := d1
    simp only at hO hK1 hC1 ⊢
    obtain ⟨nk1, hnk1⟩ : ∃ nk1, nk1 = kl1.length := ⟨_, rfl⟩
    obtain ⟨nc1, hnc1⟩ : ∃ nc1, nc1 = cl1.length := ⟨_, rfl⟩
    rw [← hnk1, ← hnc1]
    rw [← hnk1] at hK1
    rw [← hnc1] at hC1
    have HNk1 := Lib.hid hnk1
    have HNc1 := Lib.hid hnc1
    have HO18 := Lib.hid (hO.keep (Kit.below1 w17 (.cells #[.int .i64 kc1, .slice q1 nk1 ck1, .bool ar1, .bool aw1, .slice p1 nc1 cc1] 27)))
    have HC18 := Lib.hid (NCells.new w17 (.int .i64 kc1) (.slice q1 nk1 ck1) (.bool ar1) (.bool aw1) (.slice p1 nc1 cc1) w17.heap.size rfl)
    have HBz := Lib.hid (hb17.alloc hb17.size (.cells #[.int .i64 kc1, .slice q1 nk1 ck1, .bool ar1, .bool aw1, .slice p1 nc1 cc1] 27))
    have HL18 := Lib.hid (show w16.heap.size ≤ w17.heap.size ∧ w17.heap.size < (w17.alloc (.cells #[.int .i64 kc1, .slice q1 nk1 ck1, .bool ar1, .bool aw1, .slice p1 nc1 cc1] 27)).heap.size from ⟨hb17.size, by simp⟩)
    clear hN17 hb17 hO CO16 hnk1 hnc1
    go_upto_region 17 with fail
    generalize w17.alloc (.cells #[.int .i64 kc1, .slice q1 nk1 ck1, .bool ar1, .bool aw1, .slice p1 nc1 cc1] 27) = W18 at HO18 HC18 HBz HL18 ⊢
    have HS18 := Lib.hid (HS16.out.keep HBz.out)
    have hcm18 := last_cell HS18.out HMl.out
    have hfm18 : W18.frozen? ⟨g, m, none⟩ = false := by rw [HBz.out.frozen (p := ⟨g, m, none⟩) HG16.out.2]; exact HF16.out
    have HS19 := Lib.hid (put_last HS18.out HMl.out V (X ++ [120]) HVd.out)
    have HB19 := Lib.hid (show Below w13.heap.size w13 (W18.setCell ⟨g, m, none⟩ (.string V)) from (HB16.out.trans (HBz.out.mono HB16.out.size)).setCell HG16.out.1 _)
    have hoth : ∀ j, w16.heap.size ≤ j → (W18.setCell ⟨g, m, none⟩ (.string V)).heap[j]? = W18.heap[j]? := fun j hj => heap_setCell_other _ _ _ _ (other_block HG16.out.2 hj)
    have HO19 := Lib.hid (nopen_high HO18.out hoth (by simp))
    have HC19 := Lib.hid (ncells_high HC18.out hoth HL18.out.1)
    have HL19 := Lib.hid (show w17.heap.size < (W18.setCell ⟨g, m, none⟩ (.string V)).heap.size by simpa using HL18.out.2)
    clear hoth HS16 HG16 HF16 HB16 HBz HS18 HO18 HC18 HL18
    go_upto_region 18 with fail
    generalize W18.setCell ⟨g, m, none⟩ (.string V) = W19 at HS19 HB19 HO19 HC19 HL19 ⊢
    have CP19 := Lib.hid (CP.out W19 g cg HS19.out hcg1 hcg2)
    clear hcm18 hfm18 CP HS19
    go_wp2_with fail
    refine CP19.out.mono ?_
    rintro e w20 ⟨v20, rfl, hN20, hb20⟩
    obtain ⟨q2, ck2, p2, cc2, rfl, hO⟩ := need_open hN20
    obtain ⟨kc2, kl2, ar2, aw2, cl2⟩ := d2
    simp only at hO ⊢
    obtain ⟨nk2, hnk2⟩ : ∃ nk2, nk2 = kl2.length := ⟨_, rfl⟩
    obtain ⟨nc2, hnc2⟩ : ∃ nc2, nc2 = cl2.length := ⟨_, rfl⟩
    rw [← hnk2, ← hnc2]
    have HNk2 := Lib.hid hnk2
    have HNc2 := Lib.hid hnc2
    have HO21 := Lib.hid (hO.keep (Kit.below1 w20 (.cells #[.int .i64 kc2, .slice q2 nk2 ck2, .bool ar2, .bool aw2, .slice p2 nc2 cc2] 27)))
    have HC21 := Lib.hid (NCells.new w20 (.int .i64 kc2) (.slice q2 nk2 ck2) (.bool ar2) (.bool aw2) (.slice p2 nc2 cc2) w20.heap.size rfl)
    have HP21 := Lib.hid ((HO19.out.keep hb20).keep (Kit.below1 w20 (.cells #[.int .i64 kc2, .slice q2 nk2 ck2, .bool ar2, .bool aw2, .slice p2 nc2 cc2] 27)))
    have HD21 := Lib.hid ((HC19.out.keep hb20 HL19.out).keep (Kit.below1 w20 (.cells #[.int .i64 kc2, .slice q2 nk2 ck2, .bool ar2, .bool aw2, .slice p2 nc2 cc2] 27)) (Nat.lt_of_lt_of_le HL19.out hb20.size))
    have HB21 := Lib.hid ((HB19.out.trans (hb20.mono HB19.out.size)).alloc (HB19.out.trans (hb20.mono HB19.out.size)).size (.cells #[.int .i64 kc2, .slice q2 nk2 ck2, .bool ar2, .bool aw2, .slice p2 nc2 cc2] 27))
    clear hN20 hb20 hO CP19 hnk2 hnc2 HO19 HC19 HL19 HB19
    go_upto_region 19 with fail
    generalize w20.alloc (.cells #[.int .i64 kc2, .slice q2 nk2 ck2, .bool ar2, .bool aw2, .slice p2 nc2 cc2] 27) = W21 at HO21 HC21 HP21 HD21 HB21 ⊢
    obtain ⟨a0, a1, a2, a3, a4⟩ := HD21.out
    obtain ⟨y0, y1, y2, y3, y4⟩ := HC21.out
    have CS := Lib.hid (rsame kc1 kc2 q1 q2 p1 p2 kl1 kl2 cl1 cl2 nk1 nk2 nc1 nc2 ck1 ck2 cc1 cc2 ar1 ar2 aw1 aw2 W21 HNk1.out.symm HNk2.out.symm HNc1.out.symm HNc2.out.symm HP21.out.u HO21.out.u HP21.out.s HO21.out.s hK1 hC1)
    go_wp2_with fail
    refine CS.out.mono ?_
    rintro e w22 ⟨B, rfl, hB, hb22⟩
    have HBF := Lib.hid (HBw.out.trans ((HB21.out.trans (hb22.mono HB21.out.size)).mono HBw.out.size))
    have HBt := Lib.hid hB
    clear hB hb22 HO21 HC21 HP21 HD21 HB21 CS a0 a1 a2 a3 a4 y0 y1 y2 y3 y4 hK1 hC1
    rcases tst with h1 | h2
    · have hm1 : ((m : Int) == 1) = true := by rw [beq_iff_eq, h1]; rfl
      clear h1
      cases B
      · go_wp2_with fail
        go_ret
        exact ⟨rfl, HBF.out⟩
      · go_wp2_with fail
        go_ret
        exact ⟨rfl, HBF.out⟩
    · have hd := HNn.out h2
      injection hd with x1 x2 x3 x4 x5
      obtain rfl : B = true := HBt.out ⟨x1, x2, x3, x4, x5⟩
      clear h2 x1 x2 x3 x4 x5
      go_wp2_with fail
      go_ret
      exact ⟨rfl, HBF.out⟩
  · obtain rfl : T = ⟨#[122, 97, 100, 100]⟩ := ByteArray.ext (Array.toList_inj.1 h6)
    clear h6 HTn HT6
    go_upto_region 15 with fail
    go_wp2_with (first
      | (at_builtin; refine wpList_append_ss (w0 := w13) rfl (.tmp 104) (.tmp 105) rfl _ [] rfl HO1.out HB1.out _ M m c rfl HMl.out HM1.out (fun e => by cases e) HZ.out M rfl ?_
         intro v3 w14 hown3 hb3
         have HOa := Lib.hid (hown3.keep (Kit.below1 w14 (.cells #[.string s] 9)))
         have HBa := Lib.hid (hb3.alloc hb3.size (.cells #[.string s] 9))
         have HCa := Lib.hid (show (w14.alloc (.cells #[.string s] 9)).cell? ⟨w14.heap.size, 0, none⟩ = some (.string s) by simp [World.cell?_alloc_mark])
         clear hown3 hb3 HO1 HB1 HM1)
      | (at_builtin; refine wpList_append_s (w0 := w13) rfl (.tmp 106) (.tmp 108) rfl v3 M rfl HOa.out HBa.out w14.heap.size s X 1 rfl HX.out HCa.out HSz.out ?_
         intro v5 w16 hown5 hb5
         obtain ⟨g, cg, hv5, hge5, hlt5, hS5, f1, f2, hfr5⟩ := own_open hown5 (by rw [HLl.out X]; exact Nat.succ_pos _)
         rw [HLl.out X, ← HL.out] at hv5
         rw [HLl.out X, ← HL.out] at f1
         have CO16 := Lib.hid (CO.out w16 g cg hS5 f1 f2)
         have HS16 := Lib.hid hS5
         have HG16 := Lib.hid (show w13.heap.size ≤ g ∧ g < w16.heap.size from ⟨hge5, hlt5⟩)
         have HF16 := Lib.hid (hfr5 m)
         have HB16 := Lib.hid hb5
         have hcg1 : l ≤ cg := f1
         have hcg2 : cg ≤ 9223372036854775807 := f2
         clear hown5 hb5 hge5 hlt5 hS5 f1 f2 hfr5 HOa HBa HCa CO
         subst hv5))
    refine CO16.out.mono ?_
    rintro e w17 ⟨v17, rfl, hN17, hb17⟩
    obtain ⟨q1, ck1, p1, cc1, rfl, hO⟩ := need_open hN17
    obtain ⟨kc1, kl1, ar1, aw1, cl1⟩ := d1
    simp only at hO hK1 hC1 ⊢
    obtain ⟨nk1, hnk1⟩ : ∃ nk1, nk1 = kl1.length := ⟨_, rfl⟩
    obtain ⟨nc1, hnc1⟩ : ∃ nc1, nc1 = cl1.length := ⟨_, rfl⟩
    rw [← hnk1, ← hnc1]
    rw [← hnk1] at hK1
    rw [← hnc1] at hC1
    have HNk1 := Lib.hid hnk1
    have HNc1 := Lib.hid hnc1
    have HO18 := Lib.hid (hO.keep (Kit.below1 w17 (.cells #[.int .i64 kc1, .slice q1 nk1 ck1, .bool ar1, .bool aw1, .slice p1 nc1 cc1] 27)))
    have HC18 := Lib.hid (NCells.new w17 (.int .i64 kc1) (.slice q1 nk1 ck1) (.bool ar1) (.bool aw1) (.slice p1 nc1 cc1) w17.heap.size rfl)
    have HBz := Lib.hid (hb17.alloc hb17.size (.cells #[.int .i64 kc1, .slice q1 nk1 ck1, .bool ar1, .bool aw1, .slice p1 nc1 cc1] 27))
    have HL18 := Lib.hid (show w16.heap.size ≤ w17.heap.size ∧ w17.heap.size < (w17.alloc (.cells #[.int .i64 kc1, .slice q1 nk1 ck1, .bool ar1, .bool aw1, .slice p1 nc1 cc1] 27)).heap.size from ⟨hb17.size, by simp⟩)
    clear hN17 hb17 hO CO16 hnk1 hnc1
    go_upto_region 17 with fail
    generalize w17.alloc (.cells #[.int .i64 kc1, .slice q1 nk1 ck1, .bool ar1, .bool aw1, .slice p1 nc1 cc1] 27) = W18 at HO18 HC18 HBz HL18 ⊢
    have HS18 := Lib.hid (HS16.out.keep HBz.out)
    have hcm18 := last_cell HS18.out HMl.out
    have hfm18 : W18.frozen? ⟨g, m, none⟩ = false := by rw [HBz.out.frozen (p := ⟨g, m, none⟩) HG16.out.2]; exact HF16.out
    have HS19 := Lib.hid (put_last HS18.out HMl.out V (X ++ [120]) HVd.out)
    have HB19 := Lib.hid (show Below w13.heap.size w13 (W18.setCell ⟨g, m, none⟩ (.string V)) from (HB16.out.trans (HBz.out.mono HB16.out.size)).setCell HG16.out.1 _)
    have hoth : ∀ j, w16.heap.size ≤ j → (W18.setCell ⟨g, m, none⟩ (.string V)).heap[j]? = W18.heap[j]? := fun j hj => heap_setCell_other _ _ _ _ (other_block HG16.out.2 hj)
    have HO19 := Lib.hid (nopen_high HO18.out hoth (by simp))
    have HC19 := Lib.hid (ncells_high HC18.out hoth HL18.out.1)
    have HL19 := Lib.hid (show w17.heap.size < (W18.setCell ⟨g, m, none⟩ (.string V)).heap.size by simpa using HL18.out.2)
    clear hoth HS16 HG16 HF16 HB16 HBz HS18 HO18 HC18 HL18
    go_upto_region 18 with fail
    generalize W18.setCell ⟨g, m, none⟩ (.string V) = W19 at HS19 HB19 HO19 HC19 HL19 ⊢
    have CP19 := Lib.hid (CP.out W19 g cg HS19.out hcg1 hcg2)
    clear hcm18 hfm18 CP HS19
    go_wp2_with fail
    refine CP19.out.mono ?_
    rintro e w20 ⟨v20, rfl, hN20, hb20⟩
    obtain ⟨q2, ck2, p2, cc2, rfl, hO⟩ := need_open hN20
    obtain ⟨kc2, kl2, ar2, aw2, cl2⟩ := d2
    simp only at hO ⊢
    obtain ⟨nk2, hnk2⟩ : ∃ nk2, nk2 = kl2.length := ⟨_, rfl⟩
    obtain ⟨nc2, hnc2⟩ : ∃ nc2, nc2 = cl2.length := ⟨_, rfl⟩
    rw [← hnk2, ← hnc2]
    have HNk2 := Lib.hid hnk2
    have HNc2 := Lib.hid hnc2
    have HO21 := Lib.hid (hO.keep (Kit.below1 w20 (.cells #[.int .i64 kc2, .slice q2 nk2 ck2, .bool ar2, .bool aw2, .slice p2 nc2 cc2] 27)))
    have HC21 := Lib.hid (NCells.new w20 (.int .i64 kc2) (.slice q2 nk2 ck2) (.bool ar2) (.bool aw2) (.slice p2 nc2 cc2) w20.heap.size rfl)
    have HP21 := Lib.hid ((HO19.out.keep hb20).keep (Kit.below1 w20 (.cells #[.int .i64 kc2, .slice q2 nk2 ck2, .bool ar2, .bool aw2, .slice p2 nc2 cc2] 27)))
    have HD21 := Lib.hid ((HC19.out.keep hb20 HL19.out).keep (Kit.below1 w20 (.cells #[.int .i64 kc2, .slice q2 nk2 ck2, .bool ar2, .bool aw2, .slice p2 nc2 cc2] 27)) (Nat.lt_of_lt_of_le HL19.out hb20.size))
    have HB21 := Lib.hid ((HB19.out.trans (hb20.mono HB19.out.size)).alloc (HB19.out.trans (hb20.mono HB19.out.size)).size (.cells #[.int .i64 kc2, .slice q2 nk2 ck2, .bool ar2, .bool aw2, .slice p2 nc2 cc2] 27))
    clear hN20 hb20 hO CP19 hnk2 hnc2 HO19 HC19 HL19 HB19
    go_upto_region 19 with fail
    generalize w20.alloc (.cells #[.int .i64 kc2, .slice q2 nk2 ck2, .bool ar2, .bool aw2, .slice p2 nc2 cc2] 27) = W21 at HO21 HC21 HP21 HD21 HB21 ⊢
    obtain ⟨a0, a1, a2, a3, a4⟩ := HD21.out
    obtain ⟨y0, y1, y2, y3, y4⟩ := HC21.out
    have CS := Lib.hid (rsame kc1 kc2 q1 q2 p1 p2 kl1 kl2 cl1 cl2 nk1 nk2 nc1 nc2 ck1 ck2 cc1 cc2 ar1 ar2 aw1 aw2 W21 HNk1.out.symm HNk2.out.symm HNc1.out.symm HNc2.out.symm HP21.out.u HO21.out.u HP21.out.s HO21.out.s hK1 hC1)
    go_wp2_with fail
    refine CS.out.mono ?_
    rintro e w22 ⟨B, rfl, hB, hb22⟩
    have HBF := Lib.hid (HBw.out.trans ((HB21.out.trans (hb22.mono HB21.out.size)).mono HBw.out.size))
    have HBt := Lib.hid hB
    clear hB hb22 HO21 HC21 HP21 HD21 HB21 CS a0 a1 a2 a3 a4 y0 y1 y2 y3 y4 hK1 hC1
    rcases tst with h1 | h2
    · have hm1 : ((m : Int) == 1) = true := by rw [beq_iff_eq, h1]; rfl
      clear h1
      cases B
      · go_wp2_with fail
        go_ret
        exact ⟨rfl, HBF.out⟩
      · go_wp2_with fail
        go_ret
        exact ⟨rfl, HBF.out⟩
    · have hd := HNn.out h2
      injection hd with x1 x2 x3 x4 x5
      obtain rfl : B = true := HBt.out ⟨x1, x2, x3, x4, x5⟩
      clear h2 x1 x2 x3 x4 x5
      go_wp2_with fail
      go_ret
      exact ⟨rfl, HBF.out⟩
  · obtain rfl : T = ⟨#[115, 97, 100, 100]⟩ := ByteArray.ext (Array.toList_inj.1 h6)
    clear h6 HTn HT6
    go_upto_region 15 with fail
    go_wp2_with (first
      | (at_builtin; refine wpList_append_ss (w0 := w13) rfl (.tmp 104) (.tmp 105) rfl _ [] rfl HO1.out HB1.out _ M m c rfl HMl.out HM1.out (fun e => by cases e) HZ.out M rfl ?_
         intro v3 w14 hown3 hb3
         have HOa := Lib.hid (hown3.keep (Kit.below1 w14 (.cells #[.string s] 9)))
         have HBa := Lib.hid (hb3.alloc hb3.size (.cells #[.string s] 9))
         have HCa := Lib.hid (show (w14.alloc (.cells #[.string s] 9)).cell? ⟨w14.heap.size, 0, none⟩ = some (.string s) by simp [World.cell?_alloc_mark])
         clear hown3 hb3 HO1 HB1 HM1)
      | (at_builtin; refine wpList_append_s (w0 := w13) rfl (.tmp 106) (.tmp 108) rfl v3 M rfl HOa.out HBa.out w14.heap.size s X 1 rfl HX.out HCa.out HSz.out ?_
         intro v5 w16 hown5 hb5
         obtain ⟨g, cg, hv5, hge5, hlt5, hS5, f1, f2, hfr5⟩ := own_open hown5 (by rw [HLl.out X]; exact Nat.succ_pos _)
         rw [HLl.out X, ← HL.out] at hv5
         rw [HLl.out X, ← HL.out] at f1
         have CO16 := Lib.hid (CO.out w16 g cg hS5 f1 f2)
         have HS16 := Lib.hid hS5
         have HG16 := Lib.hid (show w13.heap.size ≤ g ∧ g < w16.heap.size from ⟨hge5, hlt5⟩)
         have HF16 := Lib.hid (hfr5 m)
         have HB16 := Lib.hid hb5
         have hcg1 : l ≤ cg := f1
         have hcg2 : cg ≤ 9223372036854775807 := f2
         clear hown5 hb5 hge5 hlt5 hS5 f1 f2 hfr5 HOa HBa HCa CO
         subst hv5))
    refine CO16.out.mono ?_
    rintro e w17 ⟨v17, rfl, hN17, hb17⟩
    obtain ⟨q1, ck1, p1, cc1, rfl, hO⟩ := need_open hN17
    obtain ⟨kc1, kl1, ar1, aw1, cl1⟩ := d1
    simp only at hO hK1 hC1 ⊢
    obtain ⟨nk1, hnk1⟩ : ∃ nk1, nk1 = kl1.length := ⟨_, rfl⟩
    obtain ⟨nc1, hnc1⟩ : ∃ nc1, nc1 = cl1.length := ⟨_, rfl⟩
    rw [← hnk1, ← hnc1]
    rw [← hnk1] at hK1
    rw [← hnc1] at hC1
    have HNk1 := Lib.hid hnk1
    have HNc1 := Lib.hid hnc1
    have HO18 := Lib.hid (hO.keep (Kit.below1 w17 (.cells #[.int .i64 kc1, .slice q1 nk1 ck1, .bool ar1, .bool aw1, .slice p1 nc1 cc1] 27)))
    have HC18 := Lib.hid (NCells.new w17 (.int .i64 kc1) (.slice q1 nk1 ck1) (.bool ar1) (.bool aw1) (.slice p1 nc1 cc1) w17.heap.size rfl)
    have HBz := Lib.hid (hb17.alloc hb17.size (.cells #[.int .i64 kc1, .slice q1 nk1 ck1, .bool ar1, .bool aw1, .slice p1 nc1 cc1] 27))
    have HL18 := Lib.hid (show w16.heap.size ≤ w17.heap.size ∧ w17.heap.size < (w17.alloc (.cells #[.int .i64 kc1, .slice q1 nk1 ck1, .bool ar1, .bool aw1, .slice p1 nc1 cc1] 27)).heap.size from ⟨hb17.size, by simp⟩)
    clear hN17 hb17 hO CO16 hnk1 hnc1
    go_upto_region 17 with fail
    generalize w17.alloc (.cells #[.int .i64 kc1, .slice q1 nk1 ck1, .bool ar1, .bool aw1, .slice p1 nc1 cc1] 27) = W18 at HO18 HC18 HBz HL18 ⊢
    have HS18 := Lib.hid (HS16.out.keep HBz.out)
    have hcm18 := last_cell HS18.out HMl.out
    have hfm18 : W18.frozen? ⟨g, m, none⟩ = false := by rw [HBz.out.frozen (p := ⟨g, m, none⟩) HG16.out.2]; exact HF16.out
    have HS19 := Lib.hid (put_last HS18.out HMl.out V (X ++ [120]) HVd.out)
    have HB19 := Lib.hid (show Below w13.heap.size w13 (W18.setCell ⟨g, m, none⟩ (.string V)) from (HB16.out.trans (HBz.out.mono HB16.out.size)).setCell HG16.out.1 _)
    have hoth : ∀ j, w16.heap.size ≤ j → (W18.setCell ⟨g, m, none⟩ (.string V)).heap[j]? = W18.heap[j]? := fun j hj => heap_setCell_other _ _ _ _ (other_block HG16.out.2 hj)
    have HO19 := Lib.hid (nopen_high HO18.out hoth (by simp))
    have HC19 := Lib.hid (ncells_high HC18.out hoth HL18.out.1)
    have HL19 := Lib.hid (show w17.heap.size < (W18.setCell ⟨g, m, none⟩ (.string V)).heap.size by simpa using HL18.out.2)
    clear hoth HS16 HG16 HF16 HB16 HBz HS18 HO18 HC18 HL18
    go_upto_region 18 with fail
    generalize W18.setCell ⟨g, m, none⟩ (.string V) = W19 at HS19 HB19 HO19 HC19 HL19 ⊢
    have CP19 := Lib.hid (CP.out W19 g cg HS19.out hcg1 hcg2)
    clear hcm18 hfm18 CP HS19
    go_wp2_with fail
    refine CP19.out.mono ?_
    rintro e w20 ⟨v20, rfl, hN20, hb20⟩
    obtain ⟨q2, ck2, p2, cc2, rfl, hO⟩ := need_open hN20
    obtain ⟨kc2, kl2, ar2, aw2, cl2⟩ := d2
    simp only at hO ⊢
    obtain ⟨nk2, hnk2⟩ : ∃ nk2, nk2 = kl2.length := ⟨_, rfl⟩
    obtain ⟨nc2, hnc2⟩ : ∃ nc2, nc2 = cl2.length := ⟨_, rfl⟩
    rw [← hnk2, ← hnc2]
    have HNk2 := Lib.hid hnk2
    have HNc2 := Lib.hid hnc2
    have HO21 := Lib.hid (hO.keep (Kit.below1 w20 (.cells #[.int .i64 kc2, .slice q2 nk2 ck2, .bool ar2, .bool aw2, .slice p2 nc2 cc2] 27)))
    have HC21 := Lib.hid (NCells.new w20 (.int .i64 kc2) (.slice q2 nk2 ck2) (.bool ar2) (.bool aw2) (.slice p2 nc2 cc2) w20.heap.size rfl)
    have HP21 := Lib.hid ((HO19.out.keep hb20).keep (Kit.below1 w20 (.cells #[.int .i64 kc2, .slice q2 nk2 ck2, .bool ar2, .bool aw2, .slice p2 nc2 cc2] 27)))
    have HD21 := Lib.hid ((HC19.out.keep hb20 HL19.out).keep (Kit.below1 w20 (.cells #[.int .i64 kc2, .slice q2 nk2 ck2, .bool ar2, .bool aw2, .slice p2 nc2 cc2] 27)) (Nat.lt_of_lt_of_le HL19.out hb20.size))
    have HB21 := Lib.hid ((HB19.out.trans (hb20.mono HB19.out.size)).alloc (HB19.out.trans (hb20.mono HB19.out.size)).size (.cells #[.int .i64 kc2, .slice q2 nk2 ck2, .bool ar2, .bool aw2, .slice p2 nc2 cc2] 27))
    clear hN20 hb20 hO CP19 hnk2 hnc2 HO19 HC19 HL19 HB19
    go_upto_region 19 with fail
    generalize w20.alloc (.cells #[.int .i64 kc2, .slice q2 nk2 ck2, .bool ar2, .bool aw2, .slice p2 nc2 cc2] 27) = W21 at HO21 HC21 HP21 HD21 HB21 ⊢
    obtain ⟨a0, a1, a2, a3, a4⟩ := HD21.out
    obtain ⟨y0, y1, y2, y3, y4⟩ := HC21.out
    have CS := Lib.hid (rsame kc1 kc2 q1 q2 p1 p2 kl1 kl2 cl1 cl2 nk1 nk2 nc1 nc2 ck1 ck2 cc1 cc2 ar1 ar2 aw1 aw2 W21 HNk1.out.symm HNk2.out.symm HNc1.out.symm HNc2.out.symm HP21.out.u HO21.out.u HP21.out.s HO21.out.s hK1 hC1)
    go_wp2_with fail
    refine CS.out.mono ?_
    rintro e w22 ⟨B, rfl, hB, hb22⟩
    have HBF := Lib.hid (HBw.out.trans ((HB21.out.trans (hb22.mono HB21.out.size)).mono HBw.out.size))
    have HBt := Lib.hid hB
    clear hB hb22 HO21 HC21 HP21 HD21 HB21 CS a0 a1 a2 a3 a4 y0 y1 y2 y3 y4 hK1 hC1
    rcases tst with h1 | h2
    · have hm1 : ((m : Int) == 1) = true := by rw [beq_iff_eq, h1]; rfl
      clear h1
      cases B
      · go_wp2_with fail
        go_ret
        exact ⟨rfl, HBF.out⟩
      · go_wp2_with fail
        go_ret
        exact ⟨rfl, HBF.out⟩
    · have hd := HNn.out h2
      injection hd with x1 x2 x3 x4 x5
      obtain rfl : B = true := HBt.out ⟨x1, x2, x3, x4, x5⟩
      clear h2 x1 x2 x3 x4 x5
      go_wp2_with fail
      go_ret
      exact ⟨rfl, HBF.out⟩

end Go.Proofs.Ytonoelpmmjnpeaa.usesLetters
