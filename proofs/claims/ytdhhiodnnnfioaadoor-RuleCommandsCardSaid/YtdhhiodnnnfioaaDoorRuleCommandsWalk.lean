/-
  RuleCommands: each command, and each category, may be put in and taken out by its name, and by no other one; all of them together are all commands.
-/
import Derived.Test.YtdhhiodnnnfioaaDoorRuleLaw
import Derived.Test.YtdhhiodnnnfioaaDoorRefRules
import Derived.BigQuiet
import Derived.Deep.QuietTactic
namespace Go.Proofs.YtdhhiodnnnfioaaDoor.ruleCommands
open Go.RowKit Kit TableMath Low StrT RuleT RefRule RuleM RuleL
open Go.Sort (grow)
set_option linter.unusedVariables false
set_option maxRecDepth 100000
-- ASKS: NumL.Gd MacT.Mx

set_option maxHeartbeats 1000000 in
theorem cats_own (w : World) : Calls Tryd.prog 11 #[] w fun e w' => ∃ v, e = .returned v ∧ OwnS w.heap.size w' v cats ∧ Below w.heap.size w w' := by
  have HS := Lib.hid (show OwnS w.heap.size (w.alloc (.cells (sv cats).toArray 9)) (.slice (some ⟨w.heap.size, 0, none⟩) 12 12) cats from World.ownsRow_lit w (sv cats).toArray 12 (Nat.le_refl _) (by unfold maxLen; decide) rfl)
  go_enter Tryd.func11, Tryd.ntmps11
  go_wp2_with fail
  go_ret
  exact ⟨_, rfl, HS.out, Kit.below1 _ _⟩
/-- A command that lies in a block of its own. -/
def CmdAt (w : World) (b : Nat) (S : ByteArray) (r g : Int) : Prop := b < w.heap.size ∧ w.cell? ⟨b, 0, none⟩ = some (.string S) ∧ w.cell? ⟨b, 1, none⟩ = some (.int .i64 r) ∧ w.cell? ⟨b, 2, none⟩ = some (.int .u16 g)
theorem CmdAt.keep {w w' : World} {b : Nat} {S : ByteArray} {r g : Int} (h : CmdAt w b S r g) (hb : Below w.heap.size w w') : CmdAt w' b S r g :=
  ⟨Nat.lt_of_lt_of_le h.1 hb.size, by rw [hb.cell (p := ⟨b, 0, none⟩) h.1]; exact h.2.1, by rw [hb.cell (p := ⟨b, 1, none⟩) h.1]; exact h.2.2.1, by rw [hb.cell (p := ⟨b, 2, none⟩) h.1]; exact h.2.2.2⟩
theorem cmd_cells (w : World) (S : ByteArray) (r g : Int) (W : World) (k : Nat) (hW : W = w.alloc (.cells #[.string S, .int .i64 r, .int .u16 g] 31)) (hk : k = w.heap.size) : CmdAt W k S r g ∧ Below w.heap.size w W := by
  subst hW hk
  have hh := heap_alloc_last w (.cells #[.string S, .int .i64 r, .int .u16 g] 31)
  refine ⟨⟨by simp, ?_, ?_, ?_⟩, Kit.below1 _ _⟩ <;> rw [cell_of_row _ _ _ _ _ _ hh] <;> rfl
theorem add_str (M T V : ByteArray) (hz : T.size ≤ 60) (hM : M.size ≤ 4) (hV : V = M ++ T) (W : World) : (Op.stringOp .add M T).run Tryd.prog W = .ok (.string V) W := by
  rw [hV]
  exact run_string_add_sum W M T (by omega)
theorem add_strx (T M V : ByteArray) (hz : T.size ≤ 60) (hM : M.size ≤ 4) (hV : V = T ++ M) (W : World) : (Op.stringOp .add T M).run Tryd.prog W = .ok (.string V) W := by
  rw [hV]
  exact run_string_add_sum W T M (by omega)
theorem cat_list (M T V : ByteArray) (h : V = M ++ T) : V.data.toList = M.data.toList ++ T.data.toList := by
  rw [h]
  simp
theorem cat_size (M T V : ByteArray) (h : V = M ++ T) (hM : M.size ≤ 4) (hT : T.size ≤ 60) : V.size ≤ 1048000 := by
  rw [h, ByteArray.size_append]
  omega
theorem rans_bits {o : Option RV} (k m : Nat) (M : Int) (hm : (m : Int) = M) (h : o = some ⟨k, [], false, false, m⟩) : RAns o (k : Int) ⟨#[]⟩ false false M true := by
  subst h hm
  rfl
theorem rans_any (o : Option RV) (q : Bool) (h : o.isSome = q) : ∃ k S a b m, RAns o k S a b m q := by
  cases o with
  | none => subst h; exact ⟨_, _, _, _, _, rans_none rfl⟩
  | some v => subst h; exact ⟨_, _, _, _, _, rans_some rfl⟩
theorem map_some {α β : Type} {f : α → β} {o : Option α} {x : α} (h : o = some x) : o.map f = some (f x) := by subst h; rfl
theorem map_none {α β : Type} {f : α → β} {o : Option α} (h : o = none) : o.map f = none := by subst h; rfl
theorem map_is {α β : Type} {f : α → β} (o : Option α) : (o.map f).isSome = o.isSome := by cases o <;> rfl
theorem name_len (id : Nat) (h : id < 56) : (cmdAt id).name.length ≤ 20 := by
  have : (List.range 56).all (fun i => decide ((cmdAt i).name.length ≤ 20)) = true := by decide +kernel
  have := List.all_eq_true.1 this id (List.mem_range.2 h)
  simpa using this
theorem names_cat (j : Nat) (h : j < 13) : catB (names.getD j []) = true ∧ (names.getD j []).length ≤ 20 := by
  have : (List.range 13).all (fun i => decide (catB (names.getD i []) = true ∧ (names.getD i []).length ≤ 20)) = true := by decide +kernel
  have := List.all_eq_true.1 this j (List.mem_range.2 h)
  simpa using this
theorem names_at (j : Nat) (h : j < 13) : names[j]'(by rw [names_len]; exact h) = names.getD j [] := by
  rw [List.getD_eq_getElem?_getD, List.getElem?_eq_getElem (by rw [names_len]; exact h)]
  rfl

set_option maxHeartbeats 4000000 in
theorem walk0 (n m : Nat) (w : World) (hn : n ≤ 255) (hm : m ≤ 255) (hg1 : NumL.Gd w) (hg2 : MacT.Mx w) :
    Calls Tryd.prog 4 #[.int .u8 (n : Int), .int .u8 (m : Int)] w fun e w' => e = .returned (.bool true) ∧ Below w.heap.size w w' := by
  have HG := Lib.hid (Gw.mk hg1 hg2)
  have C0 := Lib.hid (shown_any w HG.out)
  have CA := Lib.hid (fun id W h0 h1 => RefTab.at_any id W h0 h1)
  obtain ⟨id, hid⟩ : ∃ id : Nat, (n : Int) % 56 = (id : Int) := ⟨n % 56, by omega⟩
  obtain ⟨j, hj⟩ : ∃ j : Nat, (m : Int) % 13 = (j : Int) := ⟨m % 13, by omega⟩
  have hid56 : id < 56 := by omega
  have hj13 : j < 13 := by omega
  have HV := Lib.hid (show atV (id : Int) = cmdAt id from RefTab.atV_in (by omega) (by omega))
  have HVb := Lib.hid (show atB (id : Int) = true from decide_eq_true (by omega))
  obtain ⟨hm1, hm2, hm3⟩ := mask_cmd id hid56
  have hnl := name_len id hid56
  obtain ⟨hc1, hc2⟩ := names_cat j hj13
  obtain ⟨M, hM⟩ : ∃ M : Int, M = ((2 ^ id : Nat) : Int) := ⟨_, rfl⟩
  have hsh : IntKind.u64.wrap (2 ^ id) = M := by rw [hM]; exact shl_one id hid56
  obtain ⟨S, hS⟩ : ∃ S : ByteArray, S = ⟨(cmdAt id).name.toArray⟩ := ⟨_, rfl⟩
  have hSd : S.data.toList = (cmdAt id).name := by rw [hS]
  have hSz : S.size ≤ 60 := by
    have : S.data.toList.length = S.size := size_l
    rw [hSd] at this
    omega
  obtain ⟨K, hK⟩ : ∃ K : ByteArray, K = ⟨(names.getD j []).toArray⟩ := ⟨_, rfl⟩
  have hKd : K.data.toList = names.getD j [] := by rw [hK]
  have hKz : K.size ≤ 60 := by
    have : K.data.toList.length = K.size := size_l
    rw [hKd] at this
    omega
  obtain ⟨r, hr⟩ : ∃ r, r = (cmdAt id).ar := ⟨_, rfl⟩
  obtain ⟨gg, hgg⟩ : ∃ gg : Int, gg = ((cmdAt id).ct : Int) := ⟨_, rfl⟩
  have HAg := Lib.hid (show aggV (atV (id : Int)) = .agg #[.string S, .int .i64 r, .int .u16 gg] by rw [HV.out, hS, hr, hgg]; rfl)
  have CCk := Lib.hid (fun W => RefTab.cat_any K W)
  obtain ⟨cv, hcv⟩ : ∃ cv : Int, cv = (catV K.data.toList : Int) := ⟨_, rfl⟩
  rw [hKd, hc1, ← hKd, ← hcv] at CCk
  have CCn := Lib.hid (fun W => RefTab.cat_any S W)
  obtain ⟨nv, hnv⟩ : ∃ nv : Int, nv = (catV S.data.toList : Int) := ⟨_, rfl⟩
  obtain ⟨nb, hnb⟩ : ∃ nb, nb = catB S.data.toList := ⟨_, rfl⟩
  rw [← hnv, ← hnb] at CCn
  obtain ⟨VA, hVA⟩ : ∃ V : ByteArray, V = ⟨#[43]⟩ ++ S := ⟨_, rfl⟩
  have aA := add_str ⟨#[43]⟩ S VA hSz (by decide) hVA
  have lA := cat_list _ _ _ hVA
  have zA := cat_size _ _ _ hVA (by decide) hSz
  obtain ⟨VB, hVB⟩ : ∃ V : ByteArray, V = ⟨#[45]⟩ ++ S := ⟨_, rfl⟩
  have aB := add_str ⟨#[45]⟩ S VB hSz (by decide) hVB
  have lB := cat_list _ _ _ hVB
  have zB := cat_size _ _ _ hVB (by decide) hSz
  obtain ⟨VD, hVD⟩ : ∃ V : ByteArray, V = ⟨#[43, 64]⟩ ++ K := ⟨_, rfl⟩
  have aD := add_str ⟨#[43, 64]⟩ K VD hKz (by decide) hVD
  have lD := cat_list _ _ _ hVD
  have zD := cat_size _ _ _ hVD (by decide) hKz
  obtain ⟨VE, hVE⟩ : ∃ V : ByteArray, V = ⟨#[45, 64]⟩ ++ K := ⟨_, rfl⟩
  have aE := add_str ⟨#[45, 64]⟩ K VE hKz (by decide) hVE
  have lE := cat_list _ _ _ hVE
  have zE := cat_size _ _ _ hVE (by decide) hKz
  obtain ⟨VY, hVY⟩ : ∃ V : ByteArray, V = ⟨#[43, 64]⟩ ++ S := ⟨_, rfl⟩
  have aY := add_str ⟨#[43, 64]⟩ S VY hSz (by decide) hVY
  have lY := cat_list _ _ _ hVY
  have zY := cat_size _ _ _ hVY (by decide) hSz
  have hVAz : VA.size ≤ 60 := by rw [hVA, ByteArray.size_append]; have : (⟨#[43]⟩ : ByteArray).size = 1 := rfl; have : S.data.toList.length = S.size := size_l; rw [hSd] at this; omega
  obtain ⟨VX, hVX⟩ : ∃ V : ByteArray, V = VA ++ ⟨#[120]⟩ := ⟨_, rfl⟩
  have aX := add_strx VA ⟨#[120]⟩ VX hVAz (by decide) hVX
  have lX := cat_list _ _ _ hVX
  have zX : VX.size ≤ 1048000 := by rw [hVX, ByteArray.size_append]; have : (⟨#[120]⟩ : ByteArray).size = 1 := rfl; omega
  have FA := Lib.hid (fun W hW => rule_is VA zA (show RAns (ruleD VA.data.toList) 8 ⟨#[]⟩ false false M true from rans_bits 8 _ M hM.symm (by rw [lA, hSd]; exact (rule_add _).trans (map_some hm1))) W hW)
  have FB := Lib.hid (fun W hW => rule_is VB zB (show RAns (ruleD VB.data.toList) 9 ⟨#[]⟩ false false M true from rans_bits 9 _ M hM.symm (by rw [lB, hSd]; exact (rule_sub _).trans (map_some hm1))) W hW)
  have hmk : maskD (64 :: K.data.toList) = some (catV K.data.toList) := by rw [mask_cat, if_pos (by rw [hKd]; exact hc1)]
  have FD := Lib.hid (fun W hW => rule_is VD zD (show RAns (ruleD VD.data.toList) 8 ⟨#[]⟩ false false cv true from rans_bits 8 _ cv hcv.symm (by rw [lD]; exact (rule_add _).trans (map_some hmk))) W hW)
  have FE := Lib.hid (fun W hW => rule_is VE zE (show RAns (ruleD VE.data.toList) 9 ⟨#[]⟩ false false cv true from rans_bits 9 _ cv hcv.symm (by rw [lE]; exact (rule_sub _).trans (map_some hmk))) W hW)
  have FX := Lib.hid (fun W hW => rule_is VX zX (show RAns (ruleD VX.data.toList) 0 ⟨#[]⟩ false false 0 false from rans_none (by rw [lX, lA, hSd]; exact (rule_add _).trans (map_none hm2))) W hW)
  obtain ⟨yk, yS, ya, yb, ym, hy⟩ := rans_any (ruleD VY.data.toList) nb (by rw [lY, hnb, hSd]; exact (congrArg Option.isSome (rule_add _)).trans ((map_is _).trans hm3))
  have FY := Lib.hid (fun W hW => rule_is VY zY hy W hW)
  have FL := Lib.hid (fun W hW => rule_is ⟨#[97, 108, 108, 99, 111, 109, 109, 97, 110, 100, 115]⟩ (by decide) (show RAns (ruleD (⟨#[97, 108, 108, 99, 111, 109, 109, 97, 110, 100, 115]⟩ : ByteArray).data.toList) 8 ⟨#[]⟩ false false 72057594037927935 true from rans_bits 8 72057594037927935 72057594037927935 rfl rule_allc) W hW)
  have CO := Lib.hid (fun W => cats_own W)
  have bkm := build_km
  have HKc := Lib.hid (show names[j]'(by rw [names_len]; exact hj13) = names.getD j [] from names_at j hj13)
  have HKe := Lib.hid hK
  clear hVA hVB hVD hVE hVY hVX lA lB lD lE lY lX zA zB zD zE zY zX hVAz hm1 hm2 hm3 hnl hc1 hc2 hM hS hSd hK hKd hr hgg hcv hnv hnb hmk hy HV hSz hKz hg1 hg2
  go_enter Tryd.func4, Tryd.ntmps4
  go_wp2_with fail
  refine C0.out.mono ?_
  rintro e w1 ⟨rfl, hb1⟩
  have HB1 := Lib.hid hb1
  clear hb1 C0
  go_wp2_with fail
  simp only [hid]
  have Hid' := Lib.hid hid
  clear hid
  refine (show Calls _ _ _ _ _ from CA.out (id : Int) w1 (by omega) (by omega)).mono ?_
  rintro e w2 ⟨rfl, hb2⟩
  rw [HAg.out, HVb.out]
  obtain ⟨W2, hW⟩ : ∃ W, W = w2.alloc (.cells #[.string S, .int .i64 r, .int .u16 gg] 31) := ⟨_, rfl⟩
  obtain ⟨g7, hg⟩ : ∃ k, k = w2.heap.size := ⟨_, rfl⟩
  have hbw := HB1.out.trans (hb2.mono HB1.out.size)
  obtain ⟨hc, hb⟩ := cmd_cells w2 S r gg W2 g7 hW hg
  have HC2 := Lib.hid hc
  have HB2 := Lib.hid (hbw.trans (hb.mono hbw.size))
  clear hb2 hbw HB1 hc hb CA HAg HVb
  go_upto_region 4 with fail
  rw [← hW, ← hg]
  clear hW hg
  go_wp2_with fail
  refine (CO.out _).mono ?_
  rintro e w3 ⟨v3, rfl, ho3, hb3⟩
  have HC3 := Lib.hid (HC2.out.keep hb3)
  have HB3 := Lib.hid (HB2.out.trans (hb3.mono HB2.out.size))
  have HOv := Lib.hid (show OwnS W2.heap.size (w3.alloc (.cells #[.string ⟨#[97, 108, 108]⟩] 9)) v3 cats from ho3.keep (Kit.below1 _ _))
  have HBa := Lib.hid (hb3.alloc hb3.size (.cells #[.string ⟨#[97, 108, 108]⟩] 9))
  have HSs := Lib.hid (show Ss (w3.alloc (.cells #[.string ⟨#[97, 108, 108]⟩] 9)) (some ⟨w3.heap.size, 0, none⟩) [allN] from fun _ => ⟨w3.heap.size, 0, rfl, by simp, fun i hi => by
    rw [Nat.zero_add, cell_of_row _ _ _ _ _ _ (heap_alloc_last w3 _)]
    match i, hi with
    | 0, _ => rfl
    | i + 1, hi => exact absurd (show i + 1 < 1 from hi) (by omega)⟩)
  clear ho3 hb3 CO HC3
  go_upto_region 4 with (at_builtin; refine wpList_append_ss (w0 := W2) rfl (.tmp 37) (.tmp 38) rfl _ cats rfl HOv.out HBa.out (some ⟨w3.heap.size, 0, none⟩) [allN] 1 1 rfl rfl HSs.out (fun h => by cases h) (by decide) names rfl ?_; intro v4 w4 hown hb4; obtain ⟨q4, c4, hv4, hss4, hcn, hcm, -⟩ := hown.ss; rw [names_len] at hv4 hcn; subst hv4; obtain ⟨b4, o4, rfl, hlt4, hcl⟩ := hss4 (by decide); have hk := hcl j (by rw [names_len]; exact hj13); rw [HKc.out, ← HKe.out] at hk; have HC4 := Lib.hid (HC2.out.keep hb4); have HB4 := Lib.hid (HB2.out.trans (hb4.mono HB2.out.size)); have d13 : decide ((j : Int) < 13) = true := decide_eq_true (by omega); clear hown hb4 hss4 hcl HOv HBa HSs HB3)
  go_wp2_with fail
  refine (CCk.out _).mono ?_
  rintro e w5 ⟨rfl, hb⟩
  have HB_5 := Lib.hid (HB4.out.trans (hb.mono HB4.out.size))
  have HC_5 := Lib.hid (HC4.out.keep hb)
  clear hb hk d13 CCk HB4 HC4
  obtain ⟨-, k0, -, -⟩ := HC_5.out
  go_wp2_with fail
  refine (FA.out _ (HG.out.keep HB_5.out)).mono ?_
  rintro e w6 ⟨rfl, hb⟩
  have HB_6 := Lib.hid (HB_5.out.trans (hb.mono HB_5.out.size))
  have HC_6 := Lib.hid (HC_5.out.keep hb)
  clear hb HB_5 HC_5 FA
  clear k0
  obtain ⟨W7, hW⟩ : ∃ W, W = w6.alloc (.cells #[.int .u8 8, .string ⟨#[]⟩, .bool false, .bool false, .int .u64 M] 25) := ⟨_, rfl⟩
  obtain ⟨g_A, hg⟩ : ∃ k, k = w6.heap.size := ⟨_, rfl⟩
  obtain ⟨hr, hb⟩ := rat_new w6 8 ⟨#[]⟩ false false M W7 g_A hW hg
  have HB_7 := Lib.hid (HB_6.out.trans (hb.mono HB_6.out.size))
  have HC_7 := Lib.hid (HC_6.out.keep hb)
  have HRA_7 := Lib.hid hr
  clear hb hr HB_6 HC_6
  go_upto_region 7 with fail
  rw [← hW, ← hg]
  clear hW hg
  obtain ⟨-, k0, -, -⟩ := HC_7.out
  go_wp2_with fail
  refine (FB.out _ (HG.out.keep HB_7.out)).mono ?_
  rintro e w8 ⟨rfl, hb⟩
  have HB_8 := Lib.hid (HB_7.out.trans (hb.mono HB_7.out.size))
  have HC_8 := Lib.hid (HC_7.out.keep hb)
  have HRA_8 := Lib.hid (HRA_7.out.keep hb)
  clear hb HB_7 HC_7 HRA_7 FB
  clear k0
  obtain ⟨W9, hW⟩ : ∃ W, W = w8.alloc (.cells #[.int .u8 9, .string ⟨#[]⟩, .bool false, .bool false, .int .u64 M] 25) := ⟨_, rfl⟩
  obtain ⟨g_B, hg⟩ : ∃ k, k = w8.heap.size := ⟨_, rfl⟩
  obtain ⟨hr, hb⟩ := rat_new w8 9 ⟨#[]⟩ false false M W9 g_B hW hg
  have HB_9 := Lib.hid (HB_8.out.trans (hb.mono HB_8.out.size))
  have HC_9 := Lib.hid (HC_8.out.keep hb)
  have HRA_9 := Lib.hid (HRA_8.out.keep hb)
  have HRB_9 := Lib.hid hr
  clear hb hr HB_8 HC_8 HRA_8
  go_upto_region 8 with fail
  rw [← hW, ← hg]
  clear hW hg
  go_wp2_with fail
  refine (FD.out _ (HG.out.keep HB_9.out)).mono ?_
  rintro e w10 ⟨rfl, hb⟩
  have HB_10 := Lib.hid (HB_9.out.trans (hb.mono HB_9.out.size))
  have HC_10 := Lib.hid (HC_9.out.keep hb)
  have HRA_10 := Lib.hid (HRA_9.out.keep hb)
  have HRB_10 := Lib.hid (HRB_9.out.keep hb)
  clear hb HB_9 HC_9 HRA_9 HRB_9 FD
  obtain ⟨W11, hW⟩ : ∃ W, W = w10.alloc (.cells #[.int .u8 8, .string ⟨#[]⟩, .bool false, .bool false, .int .u64 cv] 25) := ⟨_, rfl⟩
  obtain ⟨g_D, hg⟩ : ∃ k, k = w10.heap.size := ⟨_, rfl⟩
  obtain ⟨hr, hb⟩ := rat_new w10 8 ⟨#[]⟩ false false cv W11 g_D hW hg
  have HB_11 := Lib.hid (HB_10.out.trans (hb.mono HB_10.out.size))
  have HC_11 := Lib.hid (HC_10.out.keep hb)
  have HRA_11 := Lib.hid (HRA_10.out.keep hb)
  have HRB_11 := Lib.hid (HRB_10.out.keep hb)
  have HRD_11 := Lib.hid hr
  clear hb hr HB_10 HC_10 HRA_10 HRB_10
  go_upto_region 9 with fail
  rw [← hW, ← hg]
  clear hW hg
  go_wp2_with fail
  refine (FE.out _ (HG.out.keep HB_11.out)).mono ?_
  rintro e w12 ⟨rfl, hb⟩
  have HB_12 := Lib.hid (HB_11.out.trans (hb.mono HB_11.out.size))
  have HC_12 := Lib.hid (HC_11.out.keep hb)
  have HRA_12 := Lib.hid (HRA_11.out.keep hb)
  have HRB_12 := Lib.hid (HRB_11.out.keep hb)
  have HRD_12 := Lib.hid (HRD_11.out.keep hb)
  clear hb HB_11 HC_11 HRA_11 HRB_11 HRD_11 FE
  obtain ⟨W13, hW⟩ : ∃ W, W = w12.alloc (.cells #[.int .u8 9, .string ⟨#[]⟩, .bool false, .bool false, .int .u64 cv] 25) := ⟨_, rfl⟩
  obtain ⟨g_E, hg⟩ : ∃ k, k = w12.heap.size := ⟨_, rfl⟩
  obtain ⟨hr, hb⟩ := rat_new w12 9 ⟨#[]⟩ false false cv W13 g_E hW hg
  have HB_13 := Lib.hid (HB_12.out.trans (hb.mono HB_12.out.size))
  have HC_13 := Lib.hid (HC_12.out.keep hb)
  have HRA_13 := Lib.hid (HRA_12.out.keep hb)
  have HRB_13 := Lib.hid (HRB_12.out.keep hb)
  have HRD_13 := Lib.hid (HRD_12.out.keep hb)
  have HRE_13 := Lib.hid hr
  clear hb hr HB_12 HC_12 HRA_12 HRB_12 HRD_12
  go_upto_region 10 with fail
  rw [← hW, ← hg]
  clear hW hg
  obtain ⟨-, k0, -, -⟩ := HC_13.out
  go_wp2_with fail
  refine (FX.out _ (HG.out.keep HB_13.out)).mono ?_
  rintro e w14 ⟨rfl, hb⟩
  have HB_14 := Lib.hid (HB_13.out.trans (hb.mono HB_13.out.size))
  have HC_14 := Lib.hid (HC_13.out.keep hb)
  have HRA_14 := Lib.hid (HRA_13.out.keep hb)
  have HRB_14 := Lib.hid (HRB_13.out.keep hb)
  have HRD_14 := Lib.hid (HRD_13.out.keep hb)
  have HRE_14 := Lib.hid (HRE_13.out.keep hb)
  clear hb HB_13 HC_13 HRA_13 HRB_13 HRD_13 HRE_13 FX
  clear k0
  obtain ⟨W15, hW⟩ : ∃ W, W = w14.alloc (.cells #[.int .u8 0, .string ⟨#[]⟩, .bool false, .bool false, .int .u64 0] 25) := ⟨_, rfl⟩
  obtain ⟨g_X, hg⟩ : ∃ k, k = w14.heap.size := ⟨_, rfl⟩
  obtain ⟨hr, hb⟩ := rat_new w14 0 ⟨#[]⟩ false false 0 W15 g_X hW hg
  have HB_15 := Lib.hid (HB_14.out.trans (hb.mono HB_14.out.size))
  have HC_15 := Lib.hid (HC_14.out.keep hb)
  have HRA_15 := Lib.hid (HRA_14.out.keep hb)
  have HRB_15 := Lib.hid (HRB_14.out.keep hb)
  have HRD_15 := Lib.hid (HRD_14.out.keep hb)
  have HRE_15 := Lib.hid (HRE_14.out.keep hb)
  have HRX_15 := Lib.hid hr
  clear hb hr HB_14 HC_14 HRA_14 HRB_14 HRD_14 HRE_14
  go_upto_region 11 with fail
  rw [← hW, ← hg]
  clear hW hg
  obtain ⟨-, k0, -, -⟩ := HC_15.out
  go_wp2_with fail
  refine (FY.out _ (HG.out.keep HB_15.out)).mono ?_
  rintro e w16 ⟨rfl, hb⟩
  have HB_16 := Lib.hid (HB_15.out.trans (hb.mono HB_15.out.size))
  have HC_16 := Lib.hid (HC_15.out.keep hb)
  have HRA_16 := Lib.hid (HRA_15.out.keep hb)
  have HRB_16 := Lib.hid (HRB_15.out.keep hb)
  have HRD_16 := Lib.hid (HRD_15.out.keep hb)
  have HRE_16 := Lib.hid (HRE_15.out.keep hb)
  clear hb HB_15 HC_15 HRA_15 HRB_15 HRD_15 HRE_15 FY
  clear k0
  obtain ⟨W17, hW⟩ : ∃ W, W = w16.alloc (.cells #[.int .u8 yk, .string yS, .bool ya, .bool yb, .int .u64 ym] 25) := ⟨_, rfl⟩
  obtain ⟨g_Y, hg⟩ : ∃ k, k = w16.heap.size := ⟨_, rfl⟩
  obtain ⟨hr, hb⟩ := rat_new w16 yk yS ya yb ym W17 g_Y hW hg
  have HB_17 := Lib.hid (HB_16.out.trans (hb.mono HB_16.out.size))
  have HC_17 := Lib.hid (HC_16.out.keep hb)
  have HRA_17 := Lib.hid (HRA_16.out.keep hb)
  have HRB_17 := Lib.hid (HRB_16.out.keep hb)
  have HRD_17 := Lib.hid (HRD_16.out.keep hb)
  have HRE_17 := Lib.hid (HRE_16.out.keep hb)
  have HRY_17 := Lib.hid hr
  clear hb hr HB_16 HC_16 HRA_16 HRB_16 HRD_16 HRE_16
  go_upto_region 12 with fail
  rw [← hW, ← hg]
  clear hW hg
  go_wp2_with fail
  refine (FL.out _ (HG.out.keep HB_17.out)).mono ?_
  rintro e w18 ⟨rfl, hb⟩
  have HB_18 := Lib.hid (HB_17.out.trans (hb.mono HB_17.out.size))
  have HC_18 := Lib.hid (HC_17.out.keep hb)
  have HRA_18 := Lib.hid (HRA_17.out.keep hb)
  have HRB_18 := Lib.hid (HRB_17.out.keep hb)
  have HRD_18 := Lib.hid (HRD_17.out.keep hb)
  have HRE_18 := Lib.hid (HRE_17.out.keep hb)
  clear hb HB_17 HC_17 HRA_17 HRB_17 HRD_17 HRE_17 FL
  obtain ⟨W19, hW⟩ : ∃ W, W = w18.alloc (.cells #[.int .u8 8, .string ⟨#[]⟩, .bool false, .bool false, .int .u64 72057594037927935] 25) := ⟨_, rfl⟩
  obtain ⟨g_L, hg⟩ : ∃ k, k = w18.heap.size := ⟨_, rfl⟩
  obtain ⟨hr, hb⟩ := rat_new w18 8 ⟨#[]⟩ false false 72057594037927935 W19 g_L hW hg
  have HB_19 := Lib.hid (HB_18.out.trans (hb.mono HB_18.out.size))
  have HC_19 := Lib.hid (HC_18.out.keep hb)
  have HRA_19 := Lib.hid (HRA_18.out.keep hb)
  have HRB_19 := Lib.hid (HRB_18.out.keep hb)
  have HRD_19 := Lib.hid (HRD_18.out.keep hb)
  have HRE_19 := Lib.hid (HRE_18.out.keep hb)
  have HRL_19 := Lib.hid hr
  clear hb hr HB_18 HC_18 HRA_18 HRB_18 HRD_18 HRE_18
  go_upto_region 13 with fail
  rw [← hW, ← hg]
  clear hW hg
  obtain ⟨-, k0, -, -⟩ := HC_19.out
  go_wp2_with fail
  refine (CCn.out _).mono ?_
  rintro e w99 ⟨rfl, hb⟩
  have HB_99 := Lib.hid (HB_19.out.trans (hb.mono HB_19.out.size))
  have HC_99 := Lib.hid (HC_19.out.keep hb)
  have HRA_99 := Lib.hid (HRA_19.out.keep hb)
  have HRB_99 := Lib.hid (HRB_19.out.keep hb)
  have HRD_99 := Lib.hid (HRD_19.out.keep hb)
  have HRE_99 := Lib.hid (HRE_19.out.keep hb)
  have HRL_99 := Lib.hid (HRL_19.out.keep hb)
  clear hb k0 CCn HG HB_19 HC_19 HRA_19 HRB_19 HRD_19 HRE_19 HRL_19
  have PA := Lib.hid HRA_99.out.row
  have PB := Lib.hid HRB_99.out.row
  have PD := Lib.hid HRD_99.out.row
  have PE := Lib.hid HRE_99.out.row
  have PL := Lib.hid HRL_99.out.row
  go_wp2_with fail
  refine wp_region_quiet_below (by kernel_rfl) (by kernel_rfl) ?_
  repeat (any_goals (first
    | (refine wpQuiet_step (fun K hK => ?_); rw [if_pos (by rfl)]; (first
        | (with_reducible refine quiet_load_rowB 25 (.tmp 12) rfl g_A rfl 25 _ PA.out _ Tryd.underlying25 rfl (rule_cs 8 ⟨#[]⟩ false false M) ?_)
        | (with_reducible refine quiet_load_rowB 25 (.tmp 14) rfl g_B rfl 25 _ PB.out _ Tryd.underlying25 rfl (rule_cs 9 ⟨#[]⟩ false false M) ?_)
        | (with_reducible refine quiet_load_rowB 25 (.tmp 16) rfl g_D rfl 25 _ PD.out _ Tryd.underlying25 rfl (rule_cs 8 ⟨#[]⟩ false false cv) ?_)
        | (with_reducible refine quiet_load_rowB 25 (.tmp 18) rfl g_E rfl 25 _ PE.out _ Tryd.underlying25 rfl (rule_cs 9 ⟨#[]⟩ false false cv) ?_)
        | (with_reducible refine quiet_load_rowB 25 (.tmp 24) rfl g_L rfl 25 _ PL.out _ Tryd.underlying25 rfl (rule_cs 8 ⟨#[]⟩ false false 72057594037927935) ?_)); go_simp; refine hK _ ?_; clear hK K)
    | go_big_quiet_step (fail)))
  with_reducible refine wpQuiet_nil ?_
  intro _ hw'
  obtain ⟨⟨dq, osq⟩, hw''⟩ := hw'
  subst hw''
  have HBz := Lib.hid (HB_99.out.trans ((below_regrown _ dq osq).mono HB_99.out.size))
  go_wp2_with fail
  go_ret
  exact ⟨rfl, HBz.out⟩

theorem walk (n m : Int) (w : World) (h0 : 0 ≤ n) (h1 : n ≤ 255) (h2 : 0 ≤ m) (h3 : m ≤ 255) (hg1 : NumL.Gd w) (hg2 : MacT.Mx w) :
    Calls Tryd.prog 4 #[.int .u8 n, .int .u8 m] w fun e w' => e = .returned (.bool true) ∧ Below w.heap.size w w' := by
  obtain ⟨a, rfl⟩ := Int.eq_ofNat_of_zero_le h0
  obtain ⟨b, rfl⟩ := Int.eq_ofNat_of_zero_le h2
  exact walk0 a b w (by omega) (by omega) hg1 hg2

end Go.Proofs.YtdhhiodnnnfioaaDoor.ruleCommands
