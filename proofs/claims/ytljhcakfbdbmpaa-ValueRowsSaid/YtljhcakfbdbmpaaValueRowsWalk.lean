/-
  ValueRows: a value that may be has something just if it is of a kind; with a part of another kind it may not be; rows that do not rise, or are empty, may not.
-/
import Derived.Test.YtljhcakfbdbmpaaValFit
import Derived.Deep.DeepCutAuto
import Derived.Deep.RegionLaw
namespace Go.Proofs.Ytljhcakfbdbmpaa.valueRows
open Go.Sort Go.RowKit Kit StrT RowG BOrd ValT RefV ValM ValL
set_option linter.unusedVariables false
set_option maxRecDepth 100000
-- ASKS: 
-- VSZ: s

theorem ownR_put {α : Type} {E : Enc α} {base : Nat} {W : World} {v : Value} {L : List α} {a : Addr} {u : Value} (h : OwnR E base W v L) (ha : a.block < base) : OwnR E base (W.setCell a u) v L := by
  refine ⟨h.1, ?_⟩
  rcases h.2 with h1 | ⟨g, cap, cur, e, hg, hh, h2⟩
  · exact Or.inl h1
  · exact Or.inr ⟨g, cap, cur, e, hg, by rw [heap_setCell_other _ _ _ _ (by omega)]; exact hh, h2⟩

set_option maxHeartbeats 8000000 in
theorem walk (ka : Int) (Sa : ByteArray) (qla : Option Addr) (nla cla : Nat) (qha : Option Addr) (nha cha : Nat) (qza : Option Addr) (nza cza : Nat) (da : V) (w : World) (Ha : VArg w ka Sa qla nla cla qha nha cha qza nza cza da) (hSa : Sa.size ≤ 140737488351232) :
    Calls Try.prog 5 #[.agg #[.int .u8 ka, .string Sa, .slice qla nla cla, .slice qha nha cha, .slice qza nza cza]] w fun e w' => e = .returned (.bool true) ∧ Below w.heap.size w w' := by
  have hbx := bel_new w (.cells #[.int .u8 ka, .string Sa, .slice qla nla cla, .slice qha nha cha, .slice qza nza cza] 26)
  have HBx := Lib.hid hbx
  have HX := Lib.hid (heap_alloc_last w (.cells #[.int .u8 ka, .string Sa, .slice qla nla cla, .slice qha nha cha, .slice qza nza cza] 26))
  have HVa := Lib.hid (Ha.keep hbx)
  have HKa := Lib.hid (show ka = (da.kind : Int) ∧ da.kind ≤ 255 from ⟨Ha.ek, Ha.kb⟩)
  have C0 := Lib.hid (fun W => shown_any W)
  clear Ha hbx
  go_enter Try.func5, Try.ntmps5
  go_upto_region 1 with fail
  obtain ⟨ga, hga⟩ : ∃ g, g = w.heap.size := ⟨_, rfl⟩
  have HGa := Lib.hid (show ga < (w.alloc (.cells #[.int .u8 ka, .string Sa, .slice qla nla cla, .slice qha nha cha, .slice qza nza cza] 26)).heap.size by rw [hga]; simp)
  rw [← hga] at HX ⊢
  clear hga
  generalize w.alloc _ = w0 at HBx HVa HX HGa ⊢
  go_wp2_with fail
  refine (C0.out _).mono ?_
  rintro e w1 ⟨rfl, hb1⟩
  have HB1 := Lib.hid (HBx.out.trans (hb1.mono HBx.out.size))
  have HX1 := Lib.hid ((hb1.block ga HGa.out).trans HX.out)
  have HVa1 := Lib.hid (HVa.out.keep hb1)
  have HGa1 := Lib.hid (show ga < w1.heap.size from Nat.lt_of_lt_of_le HGa.out hb1.size)
  clear hb1 HBx HVa HX HGa C0
  have CS := Lib.hid (rfit ka Sa qla nla cla qha nha cha qza nza cza da w1 HVa1.out hSa)
  have HCa := Lib.hid (show (Try.prog.info? 26).map (·.size) = some (#[.int .u8 ka, .string Sa, .slice qla nla cla, .slice qha nha cha, .slice qza nza cza] : Array Value).size from val_size)
  go_wp2_with (with_reducible refine wpList_load_row rfl 26 (.tmp 1) rfl ga rfl 26 #[.int .u8 ka, .string Sa, .slice qla nla cla, .slice qha nha cha, .slice qza nza cza] (0, 0) _ HX1.out Try.underlying26 rfl HCa.out ?_)
  with_reducible refine CS.out.mono ?_
  rintro e w3 hP
  obtain ⟨kx, Sx, qlx, nlx, clx, qhx, nhx, chx, qzx, nzx, czx, rfl, hVx, hb2⟩ := valP_open hP (Nat.le_trans (right_kind (fit_right da)) (by decide)) (fit_len da).1 (fit_len da).2.1 (fit_len da).2.2
  have HB3 := Lib.hid (HB1.out.trans (hb2.mono HB1.out.size))
  have HX3 := Lib.hid ((hb2.block ga HGa1.out).trans HX1.out)
  have hga3 : ga < w3.heap.size := Nat.lt_of_lt_of_le HGa1.out hb2.size
  have HVx := Lib.hid hVx
  have HR := Lib.hid (fit_right da)
  have h8 := fit_len8 da
  have hs40 : Sx.size ≤ 40 := by
    have h := hVx.es
    have h2 : (fitV da).s.length ≤ 40 := by
      unfold fitV
      (repeat' split) <;> simp [v0]
      all_goals omega
    rw [← h, Array.length_toList, ByteArray.size_data] at h2
    exact h2
  obtain ⟨dx, hdx⟩ : ∃ v, v = fitV da := ⟨_, rfl⟩
  rw [← hdx] at HVx HR h8
  have hl8 : nlx ≤ 8 := by rw [← HVx.out.ll]; exact h8.1
  have hh8 : nhx ≤ 8 := by rw [← HVx.out.lh]; exact h8.2.1
  clear hdx h8
  have hk5 := right_kind HR.out
  obtain ⟨K, hK⟩ : ∃ K, K = dx.kind := ⟨_, rfl⟩
  obtain rfl : kx = (K : Int) := by rw [hK]; exact HVx.out.ek
  rw [← hK] at hk5
  have HK := Lib.hid hK
  clear hK hP hVx hb2 HB1 HX1 HVa1 HGa1 CS HCa
  obtain ⟨SX, hSX⟩ : ∃ S : ByteArray, S = Sx ++ (⟨#[120]⟩ : ByteArray) := ⟨_, rfl⟩
  have HSX := Lib.hid (show SX.data.toList = dx.s ++ [120] by rw [hSX, ByteArray.data_append, Array.toList_append, HVx.out.es])
  have add : ∀ W, (Op.stringOp .add Sx (⟨#[120]⟩ : ByteArray)).run Try.prog W = .ok (.string SX) W := fun W => by
    rw [hSX]
    exact run_string_add_sum W Sx _ (by rw [show (⟨#[120]⟩ : ByteArray).size = 1 from rfl]; omega)
  clear hSX
  have HFB := Lib.hid (FB.new w3 #[.int .u8 (K : Int), .string Sx, .slice qlx nlx clx, .slice qhx nhx chx, .slice qzx nzx czx] #[.int .u8 (K : Int), .string SX, .slice qlx nlx clx, .slice qhx nhx chx, .slice qzx nzx czx] #[.int .u8 (K : Int), .string Sx, .slice qlx nlx clx, .slice qhx nhx chx, .slice qzx nzx czx])
  have HC := Lib.hid (show (Try.prog.info? 26).map (·.size) = some (#[.int .u8 (K : Int), .string Sx, .slice qlx nlx clx, .slice qhx nhx chx, .slice qzx nzx czx] : Array Value).size from val_size)
  have hv1 := heap_alloc_last w3 (.cells #[.int .u8 (K : Int), .string Sx, .slice qlx nlx clx, .slice qhx nhx chx, .slice qzx nzx czx] 26)
  have HV1 := Lib.hid hv1
  go_upto_region 3 with fail
  have HV2 := Lib.hid (show ((w3.alloc (.cells #[.int .u8 (K : Int), .string Sx, .slice qlx nlx clx, .slice qhx nhx chx, .slice qzx nzx czx] 26)).alloc (.cells #[.int .u8 (K : Int), .string SX, .slice qlx nlx clx, .slice qhx nhx chx, .slice qzx nzx czx] 26)).heap[w3.heap.size]? = some (.cells #[.int .u8 (K : Int), .string Sx, .slice qlx nlx clx, .slice qhx nhx chx, .slice qzx nzx czx] 26 (0, 0)) by
    rw [Below.heap_alloc _ _ _ (by simp)]
    exact hv1)
  clear hv1
  go_upto_region 6 with (first
    | (with_reducible refine wpList_load_row rfl 26 (.tmp 4) rfl w3.heap.size rfl 26 #[.int .u8 (K : Int), .string Sx, .slice qlx nlx clx, .slice qhx nhx chx, .slice qzx nzx czx] (0, 0) _ HV1.out Try.underlying26 rfl HC.out ?_)
    | (with_reducible refine wpList_load_row rfl 26 (.tmp 4) rfl w3.heap.size rfl 26 #[.int .u8 (K : Int), .string Sx, .slice qlx nlx clx, .slice qhx nhx chx, .slice qzx nzx czx] (0, 0) _ HV2.out Try.underlying26 rfl HC.out ?_))
  clear add HV1 HV2
  generalize (((w3.alloc _).alloc _).alloc _) = w6 at HFB ⊢
  have HO := Lib.hid (ownR_new prE w6.heap.size w6 w6.heap.size rfl (Nat.le_refl _))
  have HBn := Lib.hid (bel_new w6 (.cells #[] prE.ty))
  have HFn := Lib.hid (HFB.out.keep HBn.out)
  have HLs := Lib.hid (HVx.out.rh.keep HFn.out.bl)
  have hsz3 := HFB.out.sz
  have HLe := Lib.hid (show ([] : List Pr).length + nhx ≤ 2097152 by rw [List.length_nil]; omega)
  have z3 : (w6.alloc (.cells #[] 34)).cell? ⟨w3.heap.size, 3, none⟩ = some (.slice qhx nhx chx) := (show (w6.alloc (.cells #[] prE.ty)).cell? ⟨w3.heap.size, 3, none⟩ = some (.slice qhx nhx chx) from by rw [cell_of_row _ _ _ _ 26 _ HFn.out.bx]; rfl)
  go_upto_region 7 with (first
    | (at_builtin; refine wpList_append_rs prE (w0 := w6) rfl (.tmp 18) (.tmp 20) rfl _ [] rfl HO.out HBn.out qhx dx.h nhx chx rfl HVx.out.lh HLs.out HVx.out.eh HLe.out dx.h rfl ?_
       intro v' w7 hown hb4
       obtain ⟨q6, c6, rfl, -⟩ := hown.ans
       rw [HVx.out.lh] at hown ⊢
       have HF4 := Lib.hid (HFB.out.keep hb4)
       have HF7 := Lib.hid (show FB w3 (w7.setCell ⟨w3.heap.size + 1 + 1, 3, none⟩ (.slice q6 nhx c6)) _ _ #[.int .u8 (K : Int), .string Sx, .slice qlx nlx clx, .slice q6 nhx c6, .slice qzx nzx czx] from HF4.out.put 3 (.slice q6 nhx c6))
       have c3 : w7.cell? ⟨w3.heap.size + 1 + 1, 3, none⟩ = some (.slice qhx nhx chx) := by rw [cell_of_row _ _ _ _ 26 _ HF4.out.ou]; rfl
       have f3 : w7.frozen? ⟨w3.heap.size + 1 + 1, 3, none⟩ = false := frozen_of_row _ _ _ _ 26 HF4.out.ou
       have HO7 := Lib.hid (show OwnR prE (w3.heap.size + 1 + 1 + 1) (w7.setCell ⟨w3.heap.size + 1 + 1, 3, none⟩ (.slice q6 nhx c6)) (.slice q6 nhx c6) dx.h from ownR_put (hown.low hsz3) (Nat.lt_succ_self _))
       clear hown hb4 HF4))
  clear c3 f3 z3 HO HBn HFn HLs HLe HFB hsz3
  generalize (w7.setCell _ _) = w8 at HF7 HO7 ⊢
  have v3 : w8.cell? ⟨w3.heap.size, 3, none⟩ = some (.slice qhx nhx chx) := by rw [cell_of_row _ _ _ _ 26 _ HF7.out.bx]; rfl
  go_upto_if 26 with fail
  go_cut [] (fun wx => ∃ q3 n3 c3, FB w3 wx #[.int .u8 (K : Int), .string Sx, .slice qlx nlx clx, .slice qhx nhx chx, .slice qzx nzx czx] #[.int .u8 (K : Int), .string SX, .slice qlx nlx clx, .slice qhx nhx chx, .slice qzx nzx czx] #[.int .u8 (K : Int), .string Sx, .slice qlx nlx clx, .slice q3 n3 c3, .slice qzx nzx czx] ∧ AnsR prE (w3.heap.size + 1 + 1 + 1) wx (.slice q3 n3 c3) (moreH dx.h))
  case first =>
    by_cases h0 : nhx = 0
    · have t0 : ((nhx : Int) == 0) = true := by rw [beq_iff_eq]; omega
      have HE := Lib.hid (show dx.h = [] from List.eq_nil_of_length_eq_zero (by rw [HVx.out.lh]; exact h0))
      clear h0
      have hbn := bel_new w8 (.cells #[.string ⟨#[110]⟩, .string ⟨#[]⟩] 34)
      have HF9 := Lib.hid (HF7.out.keep hbn)
      have HO9 := Lib.hid (ownR_lit prE (w3.heap.size + 1 + 1 + 1) w8 _ [⟨[110], []⟩] #[.string ⟨#[110]⟩, .string ⟨#[]⟩] w8.heap.size 1 rfl rfl rfl rfl HF7.out.sz (by decide))
      have m3 : (w8.alloc (.cells #[.string ⟨#[110]⟩, .string ⟨#[]⟩] 34)).cell? ⟨w3.heap.size + 1 + 1, 3, none⟩ = some (.slice q6 nhx c6) := by rw [cell_of_row _ _ _ _ 26 _ HF9.out.ou]; rfl
      have g3 : (w8.alloc (.cells #[.string ⟨#[110]⟩, .string ⟨#[]⟩] 34)).frozen? ⟨w3.heap.size + 1 + 1, 3, none⟩ = false := frozen_of_row _ _ _ _ 26 HF9.out.ou
      have HFz := Lib.hid (show FB w3 ((w8.alloc (.cells #[.string ⟨#[110]⟩, .string ⟨#[]⟩] 34)).setCell ⟨w3.heap.size + 1 + 1, 3, none⟩ (.slice (some ⟨w8.heap.size, 0, none⟩) 1 1)) _ _ #[.int .u8 (K : Int), .string Sx, .slice qlx nlx clx, .slice (some ⟨w8.heap.size, 0, none⟩) 1 1, .slice qzx nzx czx] from HF9.out.put 3 (.slice (some ⟨w8.heap.size, 0, none⟩) 1 1))
      have HAz := Lib.hid (show AnsR prE (w3.heap.size + 1 + 1 + 1) ((w8.alloc (.cells #[.string ⟨#[110]⟩, .string ⟨#[]⟩] 34)).setCell ⟨w3.heap.size + 1 + 1, 3, none⟩ (.slice (some ⟨w8.heap.size, 0, none⟩) 1 1)) (.slice (some ⟨w8.heap.size, 0, none⟩) 1 1) (moreH dx.h) from by
        rw [HE.out]
        exact (ownR_put HO9.out (Nat.lt_succ_self _)).ans)
      clear hbn HF9 HO9 HF7 HO7
      go_wp2_with fail
      go_meet
      exact ⟨_, 1, 1, HFz.out, HAz.out⟩
    · have t0 : ((nhx : Int) == 0) = false := by rw [beq_eq_false_iff_ne]; omega
      have hpos : 0 < dx.h.length := by rw [HVx.out.lh]; omega
      obtain ⟨b, off, e1, hbl, u0, u1⟩ := pair_cells (HVx.out.rh.keep HF7.out.bl) 0 hpos
      have HE := Lib.hid (more_cons hpos)
      obtain ⟨U, hU⟩ : ∃ U, U = dx.h[0] := ⟨_, rfl⟩
      rw [← hU] at u0 u1 HE
      obtain ⟨un, uv⟩ := U
      simp only [Nat.zero_mul, Nat.add_zero] at u0 u1
      obtain ⟨T, hT⟩ : ∃ T : ByteArray, T = ⟨un.toArray⟩ := ⟨_, rfl⟩
      obtain ⟨T2, hT2⟩ : ∃ T : ByteArray, T = ⟨uv.toArray⟩ := ⟨_, rfl⟩
      rw [← hT] at u0
      rw [← hT2] at u1
      have HC2 := Lib.hid (fun (W : World) k hk => rec_new prE W k ⟨un, uv⟩ #[.string T, .string T2] (by rw [hT, hT2]; rfl) hk)
      have HLn := Lib.hid (show dx.h.length ≤ 1048576 by rw [HVx.out.lh]; omega)
      obtain ⟨w0, hs0, hF0, hb0⟩ := fb_cut HF7.out
      have HF0 := Lib.hid hF0
      have hbn := bel_new w8 (.cells #[.string T, .string T2] prE.ty)
      have HOb := Lib.hid (show OwnR prE w0.heap.size (w8.alloc (.cells #[.string T, .string T2] prE.ty)) (.slice q6 nhx c6) dx.h by rw [hs0]; exact HO7.out.keep hbn)
      have HBb := Lib.hid (hb0.alloc hb0.size (.cells #[.string T, .string T2] prE.ty))
      have HS0 := Lib.hid hs0
      have m3 : w8.cell? ⟨w3.heap.size + 1 + 1, 3, none⟩ = some (.slice q6 nhx c6) := by rw [cell_of_row _ _ _ _ 26 _ HF7.out.ou]; rfl
      have m3b : (w8.alloc (.cells #[.string T, .string T2] 34)).cell? ⟨w3.heap.size + 1 + 1, 3, none⟩ = some (.slice q6 nhx c6) := (show (w8.alloc (.cells #[.string T, .string T2] prE.ty)).cell? ⟨w3.heap.size + 1 + 1, 3, none⟩ = some (.slice q6 nhx c6) from by rw [cell_of_row _ _ _ _ 26 _ (HF7.out.keep hbn).ou]; rfl)
      have hn0 : (0 : Int) < (nhx : Int) := by omega
      have hnN : 0 < nhx := by omega
      clear hU hT hT2 hpos hbl hbn hs0 hF0 hb0 HO7
      subst e1
      go_wp2_with fail
      go_region_law (refine step_append_r prE (w0 := w0) rfl (.tmp 31) (.tmp 36) rfl _ dx.h rfl (by first | exact HOb.out.drew | exact HOb.out) (by first | exact HBb.out.drew | exact HBb.out) w8.heap.size ⟨un, uv⟩ 1 rfl (by exact HC2.out _ _ rfl) HLn.out ?_
                     intro v' w5 hown hb5
                     have HF5 := Lib.hid (HF0.out.keep hb5)
                     obtain ⟨q3, c3, rfl, hR3⟩ := hown.ans
                     have HA5 := Lib.hid (show AnsR prE (w3.heap.size + 1 + 1 + 1) w5 (.slice q3 (dx.h ++ [(⟨un, uv⟩ : Pr)]).length c3) (moreH dx.h) from by
                       rw [HE.out, ← HS0.out]
                       exact ⟨q3, c3, rfl, hR3⟩)
                     generalize (dx.h ++ [(⟨un, uv⟩ : Pr)]).length = n3 at HA5 ⊢
                     have y3 : w5.cell? ⟨w3.heap.size + 1 + 1, 3, none⟩ = some (.slice q6 nhx c6) := by rw [cell_of_row _ _ _ _ 26 _ HF5.out.ou]; rfl
                     have g3 : w5.frozen? ⟨w3.heap.size + 1 + 1, 3, none⟩ = false := frozen_of_row _ _ _ _ 26 HF5.out.ou
                     have HFz := Lib.hid (show FB w3 (w5.setCell ⟨w3.heap.size + 1 + 1, 3, none⟩ (.slice q3 n3 c3)) _ _ #[.int .u8 (K : Int), .string Sx, .slice qlx nlx clx, .slice q3 n3 c3, .slice qzx nzx czx] from HF5.out.put 3 (.slice q3 n3 c3))
                     have HAz := Lib.hid (show AnsR prE (w3.heap.size + 1 + 1 + 1) (w5.setCell ⟨w3.heap.size + 1 + 1, 3, none⟩ (.slice q3 n3 c3)) (.slice q3 n3 c3) (moreH dx.h) from ansR_put HA5.out (Nat.lt_succ_self _))
                     clear hown hb5 hR3 HF5 HA5)
      all_goals
        clear u0 u1 m3 m3b y3 g3
        go_wp2_with fail
        go_meet
        exact ⟨q3, n3, c3, by first | exact HFz.out | (have e := HFz.out; simpa using e), HAz.out⟩
  case rest =>
    obtain ⟨q3, n3, c3, hF, hA⟩ := hcut
    have HF := Lib.hid hF
    have HA := Lib.hid hA
    go_upto_region 12 with (first
      | (with_reducible refine wpList_load_row rfl 26 (.tmp 4) rfl w3.heap.size rfl 26 #[.int .u8 (K : Int), .string Sx, .slice qlx nlx clx, .slice qhx nhx chx, .slice qzx nzx czx] (0, 0) _ HF.out.bx Try.underlying26 rfl HC.out ?_))
    have HBn := Lib.hid (BB.new wc #[.int .u8 (K : Int), .string Sx, .slice none 0 0, .slice qhx nhx chx, .slice qzx nzx czx])
    clear hF hA HF7 HO7 v3
    generalize wc.alloc _ = w10 at HBn ⊢
    have HF10 := Lib.hid (HF.out.keep HBn.out.bl)
    have l2 : w10.cell? ⟨w3.heap.size, 2, none⟩ = some (.slice qlx nlx clx) := by rw [cell_of_row _ _ _ _ 26 _ HF10.out.bx]; rfl
    go_wp2_with fail
    clear l2 HF10
    go_loopw [8] (fun i wr => ∃ (k cb : Nat) (i0 : Int) (qb : Option Addr) (o : List (List UInt8)), k ≤ nlx ∧ i0 = (nlx : Int) - 1 - (k : Int) ∧ i = .int .i64 i0 ∧ Hid (o = dx.l.reverse.take k) ∧ Hid (BB wc wr #[.int .u8 (K : Int), .string Sx, .slice qb k cb, .slice qhx nhx chx, .slice qzx nzx czx]) ∧ Hid (OwnR strE (wc.heap.size + 1) wr (.slice qb k cb) o)) (fun i _ => (intOf i + 1).toNat)
    case atStart => exact ⟨0, 0, (nlx : Int) - 1, none, [], Nat.zero_le _, by omega, rfl, Lib.hid rfl, HBn, Lib.hid (ownR_nil strE _ _)⟩
    case round =>
      obtain ⟨k, cb, i0, qb, o, hk, hi0, rfl, HO, HB, HOw⟩ := hrel
      clear HBn
      by_cases hlt : k < nlx
      · obtain ⟨j, hj⟩ : ∃ j : Nat, j = nlx - 1 - k := ⟨_, rfl⟩
        obtain rfl : i0 = (j : Int) := by omega
        have hjl : j < nlx := by omega
        have hj0 : (0 : Int) ≤ (j : Int) := by omega
        have hjn : (j : Int) < (nlx : Int) := by omega
        have hjm : (j : Int) ≤ 8 := by omega
        have d1 : decide ((0 : Int) ≤ (j : Int)) = true := decide_eq_true hj0
        have HL := Lib.hid HVx.out.ll
        have HFw := Lib.hid (HF.out.keep HB.out.bl)
        obtain ⟨b, off, e1, hbl, u0⟩ := ss_at (rs_ss.1 (HVx.out.rl.keep HFw.out.bl)) j (by rw [HL.out]; exact hjl)
        have HN := Lib.hid (show o ++ [dx.l[j]'(by rw [HL.out]; exact hjl)] = dx.l.reverse.take (k + 1) by
          have hkr : k < dx.l.reverse.length := by rw [List.length_reverse, HL.out]; exact hlt
          rw [HO.out, List.take_succ_eq_append_getElem hkr, List.getElem_reverse]
          congr 2
          · congr 1
            rw [HL.out, hj])
        obtain ⟨t, ht⟩ : ∃ t, t = dx.l[j]'(by rw [HL.out]; exact hjl) := ⟨_, rfl⟩
        rw [← ht] at u0 HN
        obtain ⟨T, hT⟩ : ∃ T : ByteArray, T = ⟨t.toArray⟩ := ⟨_, rfl⟩
        rw [← hT] at u0
        have HC2 := Lib.hid (fun (W : World) k hk => rec_new strE W k t #[.string T] (by rw [hT]; rfl) hk)
        have HLo := Lib.hid (show o.length = k by rw [HO.out, List.length_take, List.length_reverse, HL.out]; omega)
        have HLn := Lib.hid (show o.length ≤ 1048576 by rw [HLo.out]; omega)
        have HL1 := Lib.hid (show (o ++ [t]).length = k + 1 by rw [List.length_append, HLo.out]; rfl)
        obtain ⟨w0, hs0, hB0, hb0⟩ := bb_cut HB.out
        have HB0 := Lib.hid hB0
        have hbn := bel_new wr (.cells #[.string T] strE.ty)
        have HOb := Lib.hid (show OwnR strE w0.heap.size (wr.alloc (.cells #[.string T] strE.ty)) (.slice qb k cb) o by rw [hs0]; exact HOw.out.keep hbn)
        have HBb := Lib.hid (hb0.alloc hb0.size (.cells #[.string T] strE.ty))
        have HS0 := Lib.hid hs0
        have m2 : wr.cell? ⟨wc.heap.size, 2, none⟩ = some (.slice qb k cb) := by rw [cell_of_row _ _ _ _ 26 _ HB.out.ou]; rfl
        have m2b : (wr.alloc (.cells #[.string T] 9)).cell? ⟨wc.heap.size, 2, none⟩ = some (.slice qb k cb) := (show (wr.alloc (.cells #[.string T] strE.ty)).cell? ⟨wc.heap.size, 2, none⟩ = some (.slice qb k cb) from by rw [cell_of_row _ _ _ _ 26 _ (HB.out.keep hbn).ou]; rfl)
        have x2 : wr.cell? ⟨w3.heap.size, 2, none⟩ = some (.slice qlx nlx clx) := by rw [cell_of_row _ _ _ _ 26 _ HFw.out.bx]; rfl
        have HM := Lib.hid (show (intOf (.int .i64 ((j : Int) - 1)) + 1).toNat < (intOf (.int .i64 (j : Int)) + 1).toNat by simp [intOf])
        have HI := Lib.hid (show (j : Int) - 1 = (nlx : Int) - 1 - ((k + 1 : Nat) : Int) by omega)
        clear hT ht hbl hbn hs0 hB0 hb0 HOw HB HFw hj hi0 hk
        subst e1
        go_wp2_with fail
        go_region_law (refine step_append_r strE (w0 := w0) rfl (.tmp 50) (.tmp 56) rfl _ o rfl (by first | exact HOb.out.drew | exact HOb.out) (by first | exact HBb.out.drew | exact HBb.out) wr.heap.size t 1 rfl (by exact HC2.out _ _ rfl) HLn.out ?_
                       intro v' w5 hown hb5
                       have HB5 := Lib.hid (HB0.out.keep hb5)
                       obtain ⟨q9, c9, rfl, -⟩ := hown.ans
                       rw [HL1.out] at hown ⊢
                       have y2 : w5.cell? ⟨wc.heap.size, 2, none⟩ = some (.slice qb k cb) := by rw [cell_of_row _ _ _ _ 26 _ HB5.out.ou]; rfl
                       have g2 : w5.frozen? ⟨wc.heap.size, 2, none⟩ = false := frozen_of_row _ _ _ _ 26 HB5.out.ou
                       have HBz := Lib.hid (show BB wc (w5.setCell ⟨wc.heap.size, 2, none⟩ (.slice q9 (k + 1) c9)) #[.int .u8 (K : Int), .string Sx, .slice q9 (k + 1) c9, .slice qhx nhx chx, .slice qzx nzx czx] from HB5.out.put 2 (.slice q9 (k + 1) c9))
                       have HOz := Lib.hid (show OwnR strE (wc.heap.size + 1) (w5.setCell ⟨wc.heap.size, 2, none⟩ (.slice q9 (k + 1) c9)) (.slice q9 (k + 1) c9) (o ++ [t]) from by
                         rw [← HS0.out]
                         exact ownR_put hown (by rw [HS0.out]; exact Nat.lt_succ_self _))
                       clear hown hb5 HB5)
        all_goals
          clear u0 m2 m2b y2 g2 x2
          go_wp2_with fail
          go_roundw
          case rel => exact ⟨k + 1, c9, (j : Int) - 1, q9, _, hlt, HI.out, by go_num, HN, HBz, HOz⟩
          case measure => exact HM.out
      · obtain rfl : k = nlx := by omega
        have d1 : decide ((0 : Int) ≤ i0) = false := decide_eq_false (by omega)
        have hi1 : ¬ (0 : Int) ≤ i0 := by omega
        clear hlt hk hi0
        have HFw := Lib.hid (HF.out.keep HB.out.bl)
        have HVw := Lib.hid (HVx.out.keep HFw.out.bl)
        have HVo := Lib.hid (show VIn wr (K : Int) SX qlx k clx qhx nhx chx qzx nzx czx { dx with s := dx.s ++ [120] } from { HVw.out with es := HSX.out })
        obtain ⟨q3', c3', e3, hR3, -, hc31, hc32, hc33⟩ := HA.out.keep HB.out.bl
        injection e3 with e31 e32 e33
        subst e31 e33
        have hm9 : n3 ≤ 1048576 := by rw [e32]; have := more_len dx.h; rw [HVx.out.lh] at this; omega
        have HVm := Lib.hid (show VIn wr (K : Int) Sx qlx k clx q3 n3 c3 qzx nzx czx { dx with h := moreH dx.h } from { HVw.out with rh := hR3, lh := e32.symm, fh := hm9, bh := by rw [e32]; exact hc31, mh := hc32, eh := hc33 })
        obtain ⟨qb', cb', eb, hRb, -, hb1, hb2, hb3⟩ := HOw.out.ans
        injection eb with eb1 eb2 eb3
        subst eb1 eb3
        have HOr := Lib.hid (show o = dx.l.reverse by rw [HO.out, List.take_of_length_le]; rw [List.length_reverse, HVx.out.ll]; exact Nat.le_refl _)
        rw [HOr.out] at hRb hb1 eb2
        have HVb := Lib.hid (show VIn wr (K : Int) Sx qb k cb qhx nhx chx qzx nzx czx { dx with l := dx.l.reverse } from { HVw.out with rl := hRb, ll := eb2.symm, bl := by rw [eb2]; exact hb1, ml := hb2, el := hb3 })
        have HBW := Lib.hid (HB3.out.trans (HFw.out.bl.mono HB3.out.size))
        have HXw := Lib.hid ((HFw.out.bl.block ga hga3).trans HX3.out)
        clear e32 hR3 hc31 hc32 hc33 hm9 eb2 hRb hb1 hb2 hb3 HO HOr HOw HA HF HX3 hga3 HB3
        have HCo := Lib.hid (show (Try.prog.info? 26).map (·.size) = some (#[.int .u8 (K : Int), .string SX, .slice qlx k clx, .slice qhx nhx chx, .slice qzx nzx czx] : Array Value).size from val_size)
        have HCm := Lib.hid (show (Try.prog.info? 26).map (·.size) = some (#[.int .u8 (K : Int), .string Sx, .slice qlx k clx, .slice q3 n3 c3, .slice qzx nzx czx] : Array Value).size from val_size)
        have HCb := Lib.hid (show (Try.prog.info? 26).map (·.size) = some (#[.int .u8 (K : Int), .string Sx, .slice qb k cb, .slice qhx nhx chx, .slice qzx nzx czx] : Array Value).size from val_size)
        obtain ⟨kn, hkn⟩ : ∃ n : Nat, n = da.kind := ⟨_, rfl⟩
        obtain rfl : ka = (kn : Int) := by rw [hkn]; exact HKa.out.1
        have hkb : kn ≤ 255 := by rw [hkn]; exact HKa.out.2
        have hkz : (0 : Int) ≤ (kn : Int) := by omega
        have hkc : (kn : Int) ≤ 255 := by omega
        clear hkn HKa
        have a0 := fun d os => cell_regrown (show wr.cell? ⟨ga, 0, none⟩ = some (.int .u8 (kn : Int)) by rw [cell_of_row _ _ _ _ 26 _ HXw.out]; rfl) d os
        have v0' := fun d os => cell_regrown (show wr.cell? ⟨w3.heap.size, 0, none⟩ = some (.int .u8 (K : Int)) by rw [cell_of_row _ _ _ _ 26 _ HFw.out.bx]; rfl) d os
        have v2' := fun d os => cell_regrown (show wr.cell? ⟨w3.heap.size, 2, none⟩ = some (.slice qlx k clx) by rw [cell_of_row _ _ _ _ 26 _ HFw.out.bx]; rfl) d os
        obtain ⟨BN, hBN⟩ : ∃ v : Int, v = (sizeN dx : Int) := ⟨_, rfl⟩
        obtain ⟨Z1, hZ1⟩ : ∃ b, b = decide (K ≠ 0) := ⟨_, rfl⟩
        obtain ⟨Z2, hZ2⟩ : ∃ b, b = decide (K = 1) := ⟨_, rfl⟩
        obtain ⟨Z3, hZ3⟩ : ∃ b, b = decide (k < 2) := ⟨_, rfl⟩
        have t1 : decide ((0 : Int) < BN) = Z1 := by
          rw [hZ1, HK.out, ← right_size2 HR.out, hBN, Bool.eq_iff_iff, decide_eq_true_iff, decide_eq_true_iff]
          omega
        have t2 : ((K : Int) != 0) = Z1 := by rw [hZ1, Bool.eq_iff_iff, bne_iff_ne, decide_eq_true_iff]; omega
        have t3 : ((K : Int) == 1) = Z2 := by rw [hZ2, Bool.eq_iff_iff, beq_iff_eq, decide_eq_true_iff]; omega
        have t4 : decide ((k : Int) < 2) = Z3 := by rw [hZ3, Bool.eq_iff_iff, decide_eq_true_iff, decide_eq_true_iff]; omega
        have r1 : rightB dx = true := right_true HR.out
        have r2 : rightB { dx with s := dx.s ++ [120] } = Z2 := by rw [hZ2, HK.out]; exact right_odd HR.out
        have r3 : rightB { dx with h := moreH dx.h } = false := right_more HR.out
        have r6 : rightB ⟨6 + kn % 200, (⟨#[]⟩ : ByteArray).data.toList, [], [], []⟩ = false := right_six _ (by omega) _ _ _ _
        have HV6 := Lib.hid (fun W => bare_vin W (6 + kn % 200) ⟨#[]⟩ (by omega))
        rw [show ((6 + kn % 200 : Nat) : Int) = 6 + (kn : Int) % 200 by omega] at HV6
        have Q1 := Lib.hid (fun d os => r1 ▸ Calls.regrown_of (right_any K Sx qlx k clx qhx nhx chx qzx nzx czx dx (grow (redrawn wr d) os) (HVw.out.keep (below_regrown wr d os))))
        have Q2 := Lib.hid (fun d os => r2 ▸ Calls.regrown_of (right_any K SX qlx k clx qhx nhx chx qzx nzx czx { dx with s := dx.s ++ [120] } (grow (redrawn wr d) os) (HVo.out.keep (below_regrown wr d os))))
        have Q3 := Lib.hid (fun d os => r3 ▸ Calls.regrown_of (right_any K Sx qlx k clx q3 n3 c3 qzx nzx czx { dx with h := moreH dx.h } (grow (redrawn wr d) os) (HVm.out.keep (below_regrown wr d os))))
        have Q5 := Lib.hid (fun d os => hBN ▸ Calls.regrown_of (size_any K Sx qlx k clx qhx nhx chx qzx nzx czx dx (grow (redrawn wr d) os) (HVw.out.keep (below_regrown wr d os))))
        have Q6 := Lib.hid (fun d os => r6 ▸ Calls.regrown_of (right_any _ _ _ _ _ _ _ _ _ _ _ _ (grow (redrawn wr d) os) (HV6.out (grow (redrawn wr d) os))))
        by_cases hk4 : K = 4
        · have r4 : rightB { dx with l := dx.l.reverse } = Z3 := by
            rw [right_back HR.out, ← HK.out, HVx.out.ll, hZ3]
            simp [hk4]
          have t5 : ((K : Int) != 4) = false := by rw [hk4]; rfl
          have Q4 := Lib.hid (fun d os => r4 ▸ Calls.regrown_of (right_any K Sx qb k cb qhx nhx chx qzx nzx czx { dx with l := dx.l.reverse } (grow (redrawn wr d) os) (HVb.out.keep (below_regrown wr d os))))
          clear hZ1 hZ2 hZ3 hBN r1 r2 r3 r4 r6 hk4 hk5 HV6
          go_wp2_with fail
          refine wp_region_quiet_below (by kernel_rfl) (by kernel_rfl) ?_
          repeat (any_goals (first
            | (refine wpQuiet_step (fun K hK => ?_); rw [if_pos (by rfl)]; (first
                | (with_reducible refine quiet_load_rowB 26 (.tmp 4) rfl w3.heap.size rfl 26 _ HFw.out.bx _ Try.underlying26 rfl HC ?_)
                | (with_reducible refine quiet_load_rowB 26 (.tmp 5) rfl (w3.heap.size + 1) rfl 26 _ HFw.out.re _ Try.underlying26 rfl HCo ?_)
                | (with_reducible refine quiet_load_rowB 26 (.tmp 6) rfl (w3.heap.size + 1 + 1) rfl 26 _ HFw.out.ou _ Try.underlying26 rfl HCm ?_)
                | (with_reducible refine quiet_load_rowB 26 (.tmp 7) rfl wc.heap.size rfl 26 _ HB.out.ou _ Try.underlying26 rfl HCb ?_)); go_simp; refine hK _ ?_; clear hK K)
            | go_big_quiet_step (first
                | (go_at_call 9; with_reducible exact Q1.out _ _)
                | (go_at_call 9; with_reducible exact Q2.out _ _)
                | (go_at_call 9; with_reducible exact Q3.out _ _)
                | (go_at_call 9; with_reducible exact Q4.out _ _)
                | (go_at_call 9; with_reducible exact Q6.out _ _)
                | (go_at_call 13; with_reducible exact Q5.out _ _))))
          with_reducible refine wpQuiet_nil ?_
          intro _ hw'
          obtain ⟨⟨dq, osq⟩, hw''⟩ := hw'
          subst hw''
          have HBq := Lib.hid (HBW.out.trans ((below_regrown wr dq osq).mono HBW.out.size))
          clear Q1 Q2 Q3 Q4 Q5 Q6 a0 v0' v2'
          go_wp2_with fail
          go_ret
          exact ⟨rfl, HBq.out⟩
        · have r4 : rightB { dx with l := dx.l.reverse } = true := by
            rw [right_back HR.out, ← HK.out, HVx.out.ll]
            simp [hk4]
          have t5 : ((K : Int) != 4) = true := by rw [bne_iff_ne]; omega
          have Q4 := Lib.hid (fun d os => r4 ▸ Calls.regrown_of (right_any K Sx qb k cb qhx nhx chx qzx nzx czx { dx with l := dx.l.reverse } (grow (redrawn wr d) os) (HVb.out.keep (below_regrown wr d os))))
          clear hZ1 hZ2 hZ3 hBN r1 r2 r3 r4 r6 hk4 hk5 HV6
          go_wp2_with fail
          refine wp_region_quiet_below (by kernel_rfl) (by kernel_rfl) ?_
          repeat (any_goals (first
            | (refine wpQuiet_step (fun K hK => ?_); rw [if_pos (by rfl)]; (first
                | (with_reducible refine quiet_load_rowB 26 (.tmp 4) rfl w3.heap.size rfl 26 _ HFw.out.bx _ Try.underlying26 rfl HC ?_)
                | (with_reducible refine quiet_load_rowB 26 (.tmp 5) rfl (w3.heap.size + 1) rfl 26 _ HFw.out.re _ Try.underlying26 rfl HCo ?_)
                | (with_reducible refine quiet_load_rowB 26 (.tmp 6) rfl (w3.heap.size + 1 + 1) rfl 26 _ HFw.out.ou _ Try.underlying26 rfl HCm ?_)
                | (with_reducible refine quiet_load_rowB 26 (.tmp 7) rfl wc.heap.size rfl 26 _ HB.out.ou _ Try.underlying26 rfl HCb ?_)); go_simp; refine hK _ ?_; clear hK K)
            | go_big_quiet_step (first
                | (go_at_call 9; with_reducible exact Q1.out _ _)
                | (go_at_call 9; with_reducible exact Q2.out _ _)
                | (go_at_call 9; with_reducible exact Q3.out _ _)
                | (go_at_call 9; with_reducible exact Q4.out _ _)
                | (go_at_call 9; with_reducible exact Q6.out _ _)
                | (go_at_call 13; with_reducible exact Q5.out _ _))))
          with_reducible refine wpQuiet_nil ?_
          intro _ hw'
          obtain ⟨⟨dq, osq⟩, hw''⟩ := hw'
          subst hw''
          have HBq := Lib.hid (HBW.out.trans ((below_regrown wr dq osq).mono HBW.out.size))
          clear Q1 Q2 Q3 Q4 Q5 Q6 a0 v0' v2'
          go_wp2_with fail
          go_ret
          exact ⟨rfl, HBq.out⟩

end Go.Proofs.Ytljhcakfbdbmpaa.valueRows
