/-
  RuleRecords: a record may be put in and taken out by itself, and a text that is none may not; words that are one rule are told as such.
-/
import Derived.Test.YtdhhiodnnnfioaaDoorRuleLaw
import Derived.Test.YtdhhiodnnnfioaaDoorRefRules
import Derived.BigQuiet
import Derived.Deep.QuietTactic
namespace Go.Proofs.YtdhhiodnnnfioaaDoor.ruleRecords
open Go.RowKit Kit TableMath Low StrT RuleT RefRule RuleM RuleL
open Go.Sort (grow)
open ShaT (Bs)
set_option linter.unusedVariables false
set_option maxRecDepth 100000
-- ASKS: NumL.Gd MacT.Mx
-- NIL

theorem qmin (x y z : Nat) (hz : z = min x y) (ats : Array TypeId) (ty : TypeId) (W : World) : (Builtin.min_ ats ty #[.int .i64 (x : Int), .int .i64 (y : Int)]).run Tryd.prog W = .ok (.int .i64 (z : Int)) W := by
  have e : (if (y : Int) < (x : Int) then (y : Int) else (x : Int)) = (z : Int) := by split <;> omega
  rw [← e]
  rfl
theorem sl_b (q : Option Addr) (n c hi : Nat) (h1 : hi ≤ c) (W : World) : (Instr.slice 40 (.slice q n c) none (some (.int .i64 (hi : Int))) none).run Tryd.prog W = .ok (.slice q hi c) W := by
  rw [run_slice_h (P := Tryd.prog) W 40 q n c (by kernel_rfl) .i64 (hi : Int) (by omega) (by omega)]
  have hs : (sizeOf (Tryd.prog.elem 40)).run Tryd.prog W = .ok 1 W := by
    have he : Tryd.prog.elem 40 = 5 := by kernel_rfl
    rw [he]
    rfl
  rw [hs]
  cases q with
  | none => simp [Result.andThen, sliced]
  | some a =>
    have e : a.add 0 = a := by cases a; rfl
    simp [Result.andThen, sliced, e]
theorem add_str (M T V : ByteArray) (hz : T.size ≤ 300) (hM : M.size ≤ 300) (hV : V = M ++ T) (W : World) : (Op.stringOp .add M T).run Tryd.prog W = .ok (.string V) W := by
  rw [hV]
  exact run_string_add_sum W M T (by omega)
theorem cat_list (M T V : ByteArray) (h : V = M ++ T) : V.data.toList = M.data.toList ++ T.data.toList := by
  rw [h]
  simp
theorem cat_size (M T V : ByteArray) (h : V = M ++ T) (hM : M.size ≤ 300) (hT : T.size ≤ 300) : V.size ≤ 1048000 := by
  rw [h, ByteArray.size_append]
  omega
theorem rans_pat {o : Option RV} (k : Nat) (T : ByteArray) (r w : Bool) (h : o = some ⟨k, T.data.toList, r, w, 0⟩) : RAns o (k : Int) T r w 0 true := by
  subst h
  exact congrArg (fun s => Ending.returned (.tuple #[.agg #[.int .u8 (k : Int), .string s, .bool r, .bool w, .int .u64 0], .bool true])) (str_of (s := T) rfl).symm
theorem rans_any (o : Option RV) (q : Bool) (h : o.isSome = q) : ∃ k S a b m, RAns o k S a b m q := by
  cases o with
  | none => subst h; exact ⟨_, _, _, _, _, rans_none rfl⟩
  | some v => subst h; exact ⟨_, _, _, _, _, rans_some rfl⟩
theorem hash_is (l : List UInt8) (q : Bool) (h : MacM.rightB l = q) : (ruleD (35 :: l)).isSome = q := by
  rw [rule_hash, h]
  cases q <;> rfl
theorem word_at (k : Nat) (h : k < 7) : ruleD (plainW[k]'h) = some ⟨plainK[k]'h, [], false, false, 0⟩ ∧ ruleD (plainW[k]'h ++ [32]) = none ∧ (plainW[k]'h).length ≤ 20 := by
  have := List.all_eq_true.1 rule_words k (List.mem_range.2 h)
  rw [decide_eq_true_eq] at this
  have e1 : plainW.getD k [] = plainW[k]'h := by rw [List.getD_eq_getElem?_getD, List.getElem?_eq_getElem (show k < plainW.length from h)]; rfl
  have e2 : plainK.getD k 0 = plainK[k]'h := by rw [List.getD_eq_getElem?_getD, List.getElem?_eq_getElem (show k < plainK.length from h)]; rfl
  rw [e1, e2] at this
  have hl : ∀ m ∈ plainW, m.length ≤ 20 := by decide
  exact ⟨this.1, this.2, hl _ (List.getElem_mem _)⟩
/-- The words and the kinds, each in a block. -/
structure WK (w : World) (g1 g2 : Nat) : Prop where
  c1 : ∀ k (h : k < 7), w.cell? ⟨g1, k, none⟩ = some (.string ⟨(plainW[k]'h).toArray⟩)
  c2 : ∀ k (h : k < 7), w.cell? ⟨g2, k, none⟩ = some (.int .u8 ((plainK[k]'h : Nat) : Int))
  l1 : g1 < w.heap.size
  l2 : g2 < w.heap.size
theorem WK.keep {w w' : World} {g1 g2 : Nat} (h : WK w g1 g2) (hb : Below w.heap.size w w') : WK w' g1 g2 :=
  ⟨fun k hk => by rw [hb.cell (p := ⟨g1, k, none⟩) h.l1]; exact h.c1 k hk, fun k hk => by rw [hb.cell (p := ⟨g2, k, none⟩) h.l2]; exact h.c2 k hk, Nat.lt_of_lt_of_le h.l1 hb.size, Nat.lt_of_lt_of_le h.l2 hb.size⟩
def wordsV : Array Value := (plainW.map fun l => Value.string ⟨l.toArray⟩).toArray
def kindsV : Array Value := (plainK.map fun (k : Nat) => Value.int .u8 (k : Int)).toArray
theorem wk_new (w : World) (t1 t2 : TypeId) : WK ((w.alloc (.cells wordsV t1)).alloc (.cells kindsV t2)) w.heap.size (w.heap.size + 1) ∧ Below w.heap.size w ((w.alloc (.cells wordsV t1)).alloc (.cells kindsV t2)) := by
  have h1 := heap_alloc_last w (.cells wordsV t1)
  obtain ⟨w2, hw2⟩ : ∃ x, x = w.alloc (.cells wordsV t1) := ⟨_, rfl⟩
  have s2 : w2.heap.size = w.heap.size + 1 := by rw [hw2]; simp
  have b2 : Below w.heap.size w w2 := by rw [hw2]; exact Kit.below1 _ _
  rw [← hw2] at h1 ⊢
  have h2 := heap_alloc_last w2 (.cells kindsV t2)
  obtain ⟨w3, hw3⟩ : ∃ x, x = w2.alloc (.cells kindsV t2) := ⟨_, rfl⟩
  have s3 : w3.heap.size = w2.heap.size + 1 := by rw [hw3]; simp
  have b3 : Below w2.heap.size w2 w3 := by rw [hw3]; exact Kit.below1 _ _
  rw [← hw3] at h2 ⊢
  refine ⟨⟨fun k hk => ?_, fun k hk => ?_, by omega, by omega⟩, b2.trans (b3.mono b2.size)⟩
  · rw [b3.cell (p := ⟨_, k, none⟩) (by show w.heap.size < w2.heap.size; omega), cell_of_row _ _ _ _ _ _ h1]
    match k, hk with
    | 0, _ => rfl
    | 1, _ => rfl
    | 2, _ => rfl
    | 3, _ => rfl
    | 4, _ => rfl
    | 5, _ => rfl
    | 6, _ => rfl
    | k + 7, hk => exact absurd hk (by omega)
  · rw [s2] at h2
    rw [cell_of_row _ _ _ _ _ _ h2]
    match k, hk with
    | 0, _ => rfl
    | 1, _ => rfl
    | 2, _ => rfl
    | 3, _ => rfl
    | 4, _ => rfl
    | 5, _ => rfl
    | 6, _ => rfl
    | k + 7, hk => exact absurd hk (by omega)
theorem right_nil : MacM.rightB [] = false := by decide +kernel
/-- What Record answers: a text, and whether it is a record. -/
theorem record_is (PW : ByteArray) (p : Option Addr) (S : List UInt8) (b0 cap : Nat) (w0 : World) (hp : PW.size ≤ 30) (hl : S.length = b0) (hb : Bs w0 p S) (h40 : b0 ≤ 40) (hnil : p = none → cap = 0) :
    ∃ (R : ByteArray) (fine : Bool), MacM.rightB R.data.toList = fine ∧ R.size ≤ 300 ∧ ∀ W, Below w0.heap.size w0 W → Calls Tryd.prog 14 #[.string PW, .slice p b0 cap, .int .i64 1] W fun e w' => e = .returned (.tuple #[.string R, .bool fine]) ∧ Below W.heap.size W w' := by
  by_cases h : b0 ≤ 32
  · refine ⟨⟨(MacM.recL 1 S (MacM.derL PW.data.toList S 1)).toArray⟩, true, ?_, ?_, fun W hW => RefM.rrecord_yes PW p S b0 cap 1 W (by decide) (by decide) (by omega) hl (hb.keep hW) h hnil⟩
    · exact MacM.right_recL ⟨by decide, by decide, by omega, MacM.derL_length _ _ _⟩
    · have := MacM.recL_length 1 S (MacM.derL PW.data.toList S 1) (by rw [MacM.itoa_1]; rfl) (MacM.derL_length _ _ _)
      show (MacM.recL 1 S (MacM.derL PW.data.toList S 1)).toArray.size ≤ 300
      rw [List.size_toArray]
      omega
  · exact ⟨⟨#[]⟩, false, right_nil, by decide, fun W hW => RefM.rrecord_no PW p b0 cap 1 W (fun hh => h hh.2)⟩

set_option maxHeartbeats 4000000 in
theorem walk (s : ByteArray) (p : Option Addr) (l : List UInt8) (cap : Nat) (t : ByteArray) (w : World) (hz : s.size ≤ 140737488351232) (hb : Bs w p l) (hl : l.length ≤ 140737488351232) (hlc : l.length ≤ cap) (hc : cap ≤ 9223372036854775807) (hnil : p = none → cap = 0)
    (zt : t.size ≤ 140737488351232) (hg1 : NumL.Gd w) (hg2 : MacT.Mx w) :
    Calls Tryd.prog 6 #[.string s, .slice p l.length cap, .string t] w fun e w' => e = .returned (.bool true) ∧ Below w.heap.size w w' := by
  have HG := Lib.hid (Gw.mk hg1 hg2)
  have C0 := Lib.hid (shown_any w HG.out)
  have HBs := Lib.hid hb
  obtain ⟨n, hn⟩ : ∃ n, n = l.length := ⟨_, rfl⟩
  obtain ⟨a0, ha0⟩ : ∃ x, x = min s.size 30 := ⟨_, rfl⟩
  obtain ⟨b0, hb0⟩ : ∃ x, x = min n 40 := ⟨_, rfl⟩
  obtain ⟨c0, hc0⟩ : ∃ x, x = min t.size 100 := ⟨_, rfl⟩
  have mn1 := qmin s.size 30 a0 ha0
  have mn2 := qmin n 40 b0 hb0
  have mn3 := qmin t.size 100 c0 hc0
  rw [show ((30 : Nat) : Int) = 30 from rfl] at mn1
  rw [show ((40 : Nat) : Int) = 40 from rfl] at mn2
  rw [show ((100 : Nat) : Int) = 100 from rfl] at mn3
  obtain ⟨PW, hPW⟩ : ∃ P, P = s.extract 0 a0 := ⟨_, rfl⟩
  have hPz : PW.size ≤ 30 := by rw [hPW, ByteArray.size_extract]; omega
  have s1 : ∀ W, (Instr.slice 9 (.string s) none (some (.int .i64 (a0 : Int))) none).run Tryd.prog W = .ok (.string PW) W := fun W => by
    have h := run_slice_string_h (P := Tryd.prog) W 9 s Tryd.underlying9 .i64 (a0 : Int) (by omega) (by omega)
    rw [Int.toNat_natCast, ← hPW] at h
    exact h
  have s2 := fun W => sl_b p n cap b0 (by omega) W
  obtain ⟨T, hT⟩ : ∃ P, P = t.extract 0 c0 := ⟨_, rfl⟩
  have hTz : T.size ≤ 100 := by rw [hT, ByteArray.size_extract]; omega
  have s3 : ∀ W, (Instr.slice 9 (.string t) none (some (.int .i64 (c0 : Int))) none).run Tryd.prog W = .ok (.string T) W := fun W => by
    have h := run_slice_string_h (P := Tryd.prog) W 9 t Tryd.underlying9 .i64 (c0 : Int) (by omega) (by omega)
    rw [Int.toNat_natCast, ← hT] at h
    exact h
  have HRec := Lib.hid (fun w1 (hb1 : Below w.heap.size w w1) => record_is PW p (l.take b0) b0 cap w1 hPz (by rw [List.length_take]; omega) ((HBs.out.keep hb1).take b0) (by omega) hnil)
  obtain ⟨VT, hVT⟩ : ∃ V : ByteArray, V = ⟨#[35]⟩ ++ T := ⟨_, rfl⟩
  have aT := add_str ⟨#[35]⟩ T VT (by omega) (by decide) hVT
  have zT := cat_size _ _ _ hVT (by decide) (by omega)
  obtain ⟨qr, hqr⟩ : ∃ q, q = MacM.rightB T.data.toList := ⟨_, rfl⟩
  have CRt := Lib.hid (fun W => RefM.rright_any T W (by omega))
  rw [← hqr] at CRt
  obtain ⟨yk, yS, ya, yb, ym, hy⟩ := rans_any (ruleD VT.data.toList) qr (by rw [cat_list _ _ _ hVT]; exact hash_is _ _ hqr.symm)
  have FT := Lib.hid (fun W hW => rule_is VT zT hy W hW)
  rw [← hn]
  clear hn ha0 hb0 hc0 hPW hT hVT zT hqr hy hb hl hlc hc hnil hg1 hg2 hz zt HBs hPz hTz
  have bks := build_ks
  have bk := build_k
  go_enter Tryd.func6, Tryd.ntmps6
  go_wp2_with fail
  refine C0.out.mono ?_
  rintro e w1 ⟨rfl, hb1⟩
  have HB1 := Lib.hid hb1
  obtain ⟨R, fine, hfine, hRz, hrec⟩ := HRec.out w1 hb1
  have CT := Lib.hid (fun dd os => Calls.regrown_of (hrec (grow (redrawn w1 dd) os) (below_regrown w1 dd os)))
  have HFi := Lib.hid hfine
  clear hb1 C0 HRec hrec hfine
  go_wp2_with fail
  refine wp_region_quiet_below (by kernel_rfl) (by kernel_rfl) ?_
  repeat (any_goals (go_big_quiet_step ((go_at_call 14; with_reducible exact CT.out _ _))))
  with_reducible refine wpQuiet_nil ?_
  intro _ hw'
  obtain ⟨⟨dq, osq⟩, hw''⟩ := hw'
  subst hw''
  have HB2 := Lib.hid (HB1.out.trans ((below_regrown w1 dq osq).mono HB1.out.size))
  clear CT HB1 mn1 mn2 s1 s2
  generalize grow (redrawn w1 dq) osq = w2 at HB2 ⊢
  obtain ⟨VA, hVA⟩ : ∃ V : ByteArray, V = ⟨#[35]⟩ ++ R := ⟨_, rfl⟩
  have aA := add_str ⟨#[35]⟩ R VA hRz (by decide) hVA
  have lA := cat_list _ _ _ hVA
  have zA := cat_size _ _ _ hVA (by decide) hRz
  obtain ⟨VB, hVB⟩ : ∃ V : ByteArray, V = ⟨#[33]⟩ ++ R := ⟨_, rfl⟩
  have aB := add_str ⟨#[33]⟩ R VB hRz (by decide) hVB
  have lB := cat_list _ _ _ hVB
  have zB := cat_size _ _ _ hVB (by decide) hRz
  clear hVA hVB hRz
  rcases fine with _ | _
  · have hno : ¬ MacM.rightB R.data.toList = true := by rw [HFi.out]; exact Bool.false_ne_true
    have FA := Lib.hid (fun W hW => rule_is VA zA (show RAns (ruleD VA.data.toList) 0 ⟨#[]⟩ false false 0 false from rans_none (by rw [lA]; exact (rule_hash _).trans (if_neg hno))) W hW)
    have FB := Lib.hid (fun W hW => rule_is VB zB (show RAns (ruleD VB.data.toList) 0 ⟨#[]⟩ false false 0 false from rans_none (by rw [lB]; exact (rule_unhash _).trans (if_neg hno))) W hW)
    clear hno
    clear lA zA lB zB
    go_wp2_with fail
    refine (FA.out _ (HG.out.keep HB2.out)).mono ?_
    rintro e w11 ⟨rfl, hb⟩
    have HB_11 := Lib.hid (HB2.out.trans (hb.mono HB2.out.size))
    clear hb HB2 FA
    obtain ⟨W12, hW⟩ : ∃ W, W = w11.alloc (.cells #[.int .u8 0, .string ⟨#[]⟩, .bool false, .bool false, .int .u64 0] 25) := ⟨_, rfl⟩
    obtain ⟨g_a, hg⟩ : ∃ k, k = w11.heap.size := ⟨_, rfl⟩
    obtain ⟨hr, hb⟩ := rat_new w11 0 ⟨#[]⟩ false false 0 W12 g_a hW hg
    have HB_12 := Lib.hid (HB_11.out.trans (hb.mono HB_11.out.size))
    have HRa_12 := Lib.hid hr
    clear hb hr HB_11
    go_upto_region 4 with fail
    rw [← hW, ← hg]
    clear hW hg
    go_wp2_with fail
    refine (FB.out _ (HG.out.keep HB_12.out)).mono ?_
    rintro e w13 ⟨rfl, hb⟩
    have HB_13 := Lib.hid (HB_12.out.trans (hb.mono HB_12.out.size))
    have HRa_13 := Lib.hid (HRa_12.out.keep hb)
    clear hb HB_12 HRa_12 FB
    obtain ⟨W14, hW⟩ : ∃ W, W = w13.alloc (.cells #[.int .u8 0, .string ⟨#[]⟩, .bool false, .bool false, .int .u64 0] 25) := ⟨_, rfl⟩
    obtain ⟨g_b, hg⟩ : ∃ k, k = w13.heap.size := ⟨_, rfl⟩
    obtain ⟨hr, hb⟩ := rat_new w13 0 ⟨#[]⟩ false false 0 W14 g_b hW hg
    have HB_14 := Lib.hid (HB_13.out.trans (hb.mono HB_13.out.size))
    have HRa_14 := Lib.hid (HRa_13.out.keep hb)
    have HRb_14 := Lib.hid hr
    clear hb hr HB_13 HRa_13
    go_upto_region 5 with fail
    rw [← hW, ← hg]
    clear hW hg
    go_wp2_with fail
    refine (FT.out _ (HG.out.keep HB_14.out)).mono ?_
    rintro e w15 ⟨rfl, hb⟩
    have HB_15 := Lib.hid (HB_14.out.trans (hb.mono HB_14.out.size))
    have HRa_15 := Lib.hid (HRa_14.out.keep hb)
    have HRb_15 := Lib.hid (HRb_14.out.keep hb)
    clear hb HB_14 HRa_14 HRb_14 FT
    obtain ⟨W16, hW⟩ : ∃ W, W = w15.alloc (.cells #[.int .u8 yk, .string yS, .bool ya, .bool yb, .int .u64 ym] 25) := ⟨_, rfl⟩
    obtain ⟨g_t, hg⟩ : ∃ k, k = w15.heap.size := ⟨_, rfl⟩
    obtain ⟨hr, hb⟩ := rat_new w15 yk yS ya yb ym W16 g_t hW hg
    have HB_16 := Lib.hid (HB_15.out.trans (hb.mono HB_15.out.size))
    have HRa_16 := Lib.hid (HRa_15.out.keep hb)
    have HRb_16 := Lib.hid (HRb_15.out.keep hb)
    have HRt_16 := Lib.hid hr
    clear hb hr HB_15 HRa_15 HRb_15
    go_upto_region 7 with fail
    rw [← hW, ← hg]
    clear hW hg
    clear HRt_16
    go_wp2_with fail
    refine (CRt.out _).mono ?_
    rintro e wr ⟨rfl, hb⟩
    have HB_30 := Lib.hid (HB_16.out.trans (hb.mono HB_16.out.size))
    have HRa_30 := Lib.hid (HRa_16.out.keep hb)
    have HRb_30 := Lib.hid (HRb_16.out.keep hb)
    clear hb CRt mn3 s3 aA aB aT HB_16 HRa_16 HRb_16
    obtain ⟨hwk, hb⟩ := wk_new wr 43 44
    go_upto_region 10 with fail
    generalize hW : World.alloc (World.alloc wr _) _ = w40
    rw [show (wr.alloc (.cells wordsV 43)).alloc (.cells kindsV 44) = w40 from hW] at hwk hb
    have HB_40 := Lib.hid (HB_30.out.trans (hb.mono HB_30.out.size))
    have HRa_40 := Lib.hid (HRa_30.out.keep hb)
    have HRb_40 := Lib.hid (HRb_30.out.keep hb)
    have HWK := Lib.hid hwk
    clear hwk hb hW HB_30 HRa_30 HRb_30
    generalize wr.heap.size + 1 = g18 at HWK ⊢
    generalize wr.heap.size = g17 at HWK ⊢
    go_wp2_with fail
    go_loopw [19] (fun i wr => ∃ k : Nat, k ≤ 7 ∧ i = .int .i64 k ∧ Hid (Below w.heap.size w wr) ∧ Hid (WK wr g17 g18) ∧ Hid (RAt wr g_a 0 ⟨#[]⟩ false false 0) ∧ Hid (RAt wr g_b 0 ⟨#[]⟩ false false 0)) (fun i _ => 7 - (intOf i).toNat)
    case atStart => exact ⟨0, by omega, rfl, HB_40, HWK, HRa_40, HRb_40⟩
    clear HB_40 HWK HRa_40 HRb_40
    case round =>
      obtain ⟨k, hk, rfl, HB, HWK, HRa, HRb⟩ := hrel
      by_cases hlt : k < 7
      · have d1 : decide ((k : Int) < 7) = true := decide_eq_true (by omega)
        have d1n : decide (k < 7) = true := decide_eq_true hlt
        obtain ⟨e1, e2, e3⟩ := word_at k hlt
        obtain ⟨X, hX⟩ : ∃ X : ByteArray, X = ⟨(plainW[k]'hlt).toArray⟩ := ⟨_, rfl⟩
        obtain ⟨nk, hnk⟩ : ∃ n : Nat, n = plainK[k]'hlt := ⟨_, rfl⟩
        have hXz : X.size ≤ 20 := by rw [hX]; exact e3
        have hXd : X.data.toList = plainW[k]'hlt := by rw [hX]
        obtain ⟨Y, hY⟩ : ∃ Y : ByteArray, Y = X ++ ⟨#[32]⟩ := ⟨_, rfl⟩
        have aY := add_str X ⟨#[32]⟩ Y (by decide) (by omega) hY
        have zY := cat_size _ _ _ hY (by omega) (by decide)
        have lY := cat_list _ _ _ hY
        have K1 := Lib.hid (fun W hW => rule_is X (by omega) (show RAns (ruleD X.data.toList) (nk : Int) ⟨#[]⟩ false false 0 true from rans_some (v := ⟨nk, [], false, false, 0⟩) (by rw [hXd, hnk]; exact e1)) W hW)
        have K2 := Lib.hid (fun W hW => rule_is Y zY (show RAns (ruleD Y.data.toList) 0 ⟨#[]⟩ false false 0 false from rans_none (by rw [lY, hXd]; exact e2)) W hW)
        have HX := Lib.hid hX
        have HN := Lib.hid hnk
        clear e1 e2 e3 hX hnk hXd hY zY lY hXz
        have q0 := HWK.out.c1 k hlt
        rw [← HX.out] at q0
        go_wp2_with fail
        refine (K1.out _ (HG.out.keep HB.out)).mono ?_
        rintro e w51 ⟨rfl, hb⟩
        have HB_51 := Lib.hid (HB.out.trans (hb.mono HB.out.size))
        have HWK_51 := Lib.hid (HWK.out.keep hb)
        have HRa_51 := Lib.hid (HRa.out.keep hb)
        have HRb_51 := Lib.hid (HRb.out.keep hb)
        clear hb HB HWK HRa HRb K1
        clear q0
        obtain ⟨W52, hW⟩ : ∃ W, W = w51.alloc (.cells #[.int .u8 (nk : Int), .string ⟨#[]⟩, .bool false, .bool false, .int .u64 0] 25) := ⟨_, rfl⟩
        obtain ⟨g_k, hg⟩ : ∃ k, k = w51.heap.size := ⟨_, rfl⟩
        obtain ⟨hr, hb⟩ := rat_new w51 (nk : Int) ⟨#[]⟩ false false 0 W52 g_k hW hg
        have HB_52 := Lib.hid (HB_51.out.trans (hb.mono HB_51.out.size))
        have HWK_52 := Lib.hid (HWK_51.out.keep hb)
        have HRa_52 := Lib.hid (HRa_51.out.keep hb)
        have HRb_52 := Lib.hid (HRb_51.out.keep hb)
        have HRk_52 := Lib.hid hr
        clear hb hr HB_51 HWK_51 HRa_51 HRb_51
        go_upto_region 14 with fail
        rw [← hW, ← hg]
        clear hW hg
        have q0 := HWK_52.out.c1 k hlt
        rw [← HX.out] at q0
        go_wp2_with fail
        refine (K2.out _ (HG.out.keep HB_52.out)).mono ?_
        rintro e w53 ⟨rfl, hb⟩
        have HB_53 := Lib.hid (HB_52.out.trans (hb.mono HB_52.out.size))
        have HWK_53 := Lib.hid (HWK_52.out.keep hb)
        have HRa_53 := Lib.hid (HRa_52.out.keep hb)
        have HRb_53 := Lib.hid (HRb_52.out.keep hb)
        have HRk_53 := Lib.hid (HRk_52.out.keep hb)
        clear hb HB_52 HWK_52 HRa_52 HRb_52 HRk_52 K2
        clear q0
        obtain ⟨W54, hW⟩ : ∃ W, W = w53.alloc (.cells #[.int .u8 0, .string ⟨#[]⟩, .bool false, .bool false, .int .u64 0] 25) := ⟨_, rfl⟩
        obtain ⟨g_z, hg⟩ : ∃ k, k = w53.heap.size := ⟨_, rfl⟩
        obtain ⟨hr, hb⟩ := rat_new w53 0 ⟨#[]⟩ false false 0 W54 g_z hW hg
        have HB_54 := Lib.hid (HB_53.out.trans (hb.mono HB_53.out.size))
        have HWK_54 := Lib.hid (HWK_53.out.keep hb)
        have HRa_54 := Lib.hid (HRa_53.out.keep hb)
        have HRb_54 := Lib.hid (HRb_53.out.keep hb)
        have HRk_54 := Lib.hid (HRk_53.out.keep hb)
        have HRz_54 := Lib.hid hr
        clear hb hr HB_53 HWK_53 HRa_53 HRb_53 HRk_53
        go_upto_region 15 with fail
        rw [← hW, ← hg]
        clear hW hg
        have Pk := Lib.hid HRk_54.out.row
        have q1 := HWK_54.out.c2 k hlt
        rw [← HN.out] at q1
        have q2 := fun dd os => cell_regrown q1 dd os
        refine wp_region_quiet_below (by kernel_rfl) (by kernel_rfl) ?_
        repeat (any_goals (first
          | (refine wpQuiet_step (fun K hK => ?_); rw [if_pos (by rfl)]; (with_reducible refine quiet_load_rowB 25 (.tmp 20) rfl g_k rfl 25 _ Pk.out _ Tryd.underlying25 rfl (rule_cs (nk : Int) ⟨#[]⟩ false false 0) ?_); go_simp; refine hK _ ?_; clear hK K)
          | go_big_quiet_step (fail)))
        with_reducible refine wpQuiet_nil ?_
        intro _ hw'
        obtain ⟨⟨dq, osq⟩, hw''⟩ := hw'
        subst hw''
        have hb := below_regrown W54 dq osq
        have HB_70 := Lib.hid (HB_54.out.trans (hb.mono HB_54.out.size))
        have HWK_70 := Lib.hid (HWK_54.out.keep hb)
        have HRa_70 := Lib.hid (HRa_54.out.keep hb)
        have HRb_70 := Lib.hid (HRb_54.out.keep hb)
        have HRk_70 := Lib.hid (HRk_54.out.keep hb)
        have HRz_70 := Lib.hid (HRz_54.out.keep hb)
        clear hb q1 q2 Pk HB_54 HWK_54 HRa_54 HRb_54 HRk_54 HRz_54
        generalize grow (redrawn _ dq) osq = w71 at *
        go_wp2_with fail
        go_roundw
        case rel => exact ⟨k + 1, by omega, by go_num, HB_70, HWK_70, HRa_70, HRb_70⟩
        case measure => simp [intOf]; omega
      · have d1 : decide ((k : Int) < 7) = false := decide_eq_false (by omega)
        have d1n : decide (k < 7) = false := decide_eq_false hlt
        obtain ⟨a0, a1, a2, a3, a4⟩ := HRa.out.cells
        obtain ⟨b0, b1, b2, b3, b4⟩ := HRb.out.cells
        go_wp2_with fail
        go_ret
        exact ⟨rfl, HB.out⟩
  · have FA := Lib.hid (fun W hW => rule_is VA zA (show RAns (ruleD VA.data.toList) 6 R false false 0 true from rans_pat 6 R false false (by rw [lA]; exact (rule_hash _).trans (if_pos HFi.out))) W hW)
    have FB := Lib.hid (fun W hW => rule_is VB zB (show RAns (ruleD VB.data.toList) 7 R false false 0 true from rans_pat 7 R false false (by rw [lB]; exact (rule_unhash _).trans (if_pos HFi.out))) W hW)
    clear lA zA lB zB
    go_wp2_with fail
    refine (FA.out _ (HG.out.keep HB2.out)).mono ?_
    rintro e w11 ⟨rfl, hb⟩
    have HB_11 := Lib.hid (HB2.out.trans (hb.mono HB2.out.size))
    clear hb HB2 FA
    obtain ⟨W12, hW⟩ : ∃ W, W = w11.alloc (.cells #[.int .u8 6, .string R, .bool false, .bool false, .int .u64 0] 25) := ⟨_, rfl⟩
    obtain ⟨g_a, hg⟩ : ∃ k, k = w11.heap.size := ⟨_, rfl⟩
    obtain ⟨hr, hb⟩ := rat_new w11 6 R false false 0 W12 g_a hW hg
    have HB_12 := Lib.hid (HB_11.out.trans (hb.mono HB_11.out.size))
    have HRa_12 := Lib.hid hr
    clear hb hr HB_11
    go_upto_region 4 with fail
    rw [← hW, ← hg]
    clear hW hg
    go_wp2_with fail
    refine (FB.out _ (HG.out.keep HB_12.out)).mono ?_
    rintro e w13 ⟨rfl, hb⟩
    have HB_13 := Lib.hid (HB_12.out.trans (hb.mono HB_12.out.size))
    have HRa_13 := Lib.hid (HRa_12.out.keep hb)
    clear hb HB_12 HRa_12 FB
    obtain ⟨W14, hW⟩ : ∃ W, W = w13.alloc (.cells #[.int .u8 7, .string R, .bool false, .bool false, .int .u64 0] 25) := ⟨_, rfl⟩
    obtain ⟨g_b, hg⟩ : ∃ k, k = w13.heap.size := ⟨_, rfl⟩
    obtain ⟨hr, hb⟩ := rat_new w13 7 R false false 0 W14 g_b hW hg
    have HB_14 := Lib.hid (HB_13.out.trans (hb.mono HB_13.out.size))
    have HRa_14 := Lib.hid (HRa_13.out.keep hb)
    have HRb_14 := Lib.hid hr
    clear hb hr HB_13 HRa_13
    go_upto_region 5 with fail
    rw [← hW, ← hg]
    clear hW hg
    go_wp2_with fail
    refine (FT.out _ (HG.out.keep HB_14.out)).mono ?_
    rintro e w15 ⟨rfl, hb⟩
    have HB_15 := Lib.hid (HB_14.out.trans (hb.mono HB_14.out.size))
    have HRa_15 := Lib.hid (HRa_14.out.keep hb)
    have HRb_15 := Lib.hid (HRb_14.out.keep hb)
    clear hb HB_14 HRa_14 HRb_14 FT
    obtain ⟨W16, hW⟩ : ∃ W, W = w15.alloc (.cells #[.int .u8 yk, .string yS, .bool ya, .bool yb, .int .u64 ym] 25) := ⟨_, rfl⟩
    obtain ⟨g_t, hg⟩ : ∃ k, k = w15.heap.size := ⟨_, rfl⟩
    obtain ⟨hr, hb⟩ := rat_new w15 yk yS ya yb ym W16 g_t hW hg
    have HB_16 := Lib.hid (HB_15.out.trans (hb.mono HB_15.out.size))
    have HRa_16 := Lib.hid (HRa_15.out.keep hb)
    have HRb_16 := Lib.hid (HRb_15.out.keep hb)
    have HRt_16 := Lib.hid hr
    clear hb hr HB_15 HRa_15 HRb_15
    go_upto_region 7 with fail
    rw [← hW, ← hg]
    clear hW hg
    clear HRt_16
    go_wp2_with fail
    refine (CRt.out _).mono ?_
    rintro e wr ⟨rfl, hb⟩
    have HB_30 := Lib.hid (HB_16.out.trans (hb.mono HB_16.out.size))
    have HRa_30 := Lib.hid (HRa_16.out.keep hb)
    have HRb_30 := Lib.hid (HRb_16.out.keep hb)
    clear hb CRt mn3 s3 aA aB aT HB_16 HRa_16 HRb_16
    obtain ⟨hwk, hb⟩ := wk_new wr 43 44
    go_upto_region 10 with fail
    generalize hW : World.alloc (World.alloc wr _) _ = w40
    rw [show (wr.alloc (.cells wordsV 43)).alloc (.cells kindsV 44) = w40 from hW] at hwk hb
    have HB_40 := Lib.hid (HB_30.out.trans (hb.mono HB_30.out.size))
    have HRa_40 := Lib.hid (HRa_30.out.keep hb)
    have HRb_40 := Lib.hid (HRb_30.out.keep hb)
    have HWK := Lib.hid hwk
    clear hwk hb hW HB_30 HRa_30 HRb_30
    generalize wr.heap.size + 1 = g18 at HWK ⊢
    generalize wr.heap.size = g17 at HWK ⊢
    go_wp2_with fail
    go_loopw [19] (fun i wr => ∃ k : Nat, k ≤ 7 ∧ i = .int .i64 k ∧ Hid (Below w.heap.size w wr) ∧ Hid (WK wr g17 g18) ∧ Hid (RAt wr g_a 6 R false false 0) ∧ Hid (RAt wr g_b 7 R false false 0)) (fun i _ => 7 - (intOf i).toNat)
    case atStart => exact ⟨0, by omega, rfl, HB_40, HWK, HRa_40, HRb_40⟩
    clear HB_40 HWK HRa_40 HRb_40
    case round =>
      obtain ⟨k, hk, rfl, HB, HWK, HRa, HRb⟩ := hrel
      by_cases hlt : k < 7
      · have d1 : decide ((k : Int) < 7) = true := decide_eq_true (by omega)
        have d1n : decide (k < 7) = true := decide_eq_true hlt
        obtain ⟨e1, e2, e3⟩ := word_at k hlt
        obtain ⟨X, hX⟩ : ∃ X : ByteArray, X = ⟨(plainW[k]'hlt).toArray⟩ := ⟨_, rfl⟩
        obtain ⟨nk, hnk⟩ : ∃ n : Nat, n = plainK[k]'hlt := ⟨_, rfl⟩
        have hXz : X.size ≤ 20 := by rw [hX]; exact e3
        have hXd : X.data.toList = plainW[k]'hlt := by rw [hX]
        obtain ⟨Y, hY⟩ : ∃ Y : ByteArray, Y = X ++ ⟨#[32]⟩ := ⟨_, rfl⟩
        have aY := add_str X ⟨#[32]⟩ Y (by decide) (by omega) hY
        have zY := cat_size _ _ _ hY (by omega) (by decide)
        have lY := cat_list _ _ _ hY
        have K1 := Lib.hid (fun W hW => rule_is X (by omega) (show RAns (ruleD X.data.toList) (nk : Int) ⟨#[]⟩ false false 0 true from rans_some (v := ⟨nk, [], false, false, 0⟩) (by rw [hXd, hnk]; exact e1)) W hW)
        have K2 := Lib.hid (fun W hW => rule_is Y zY (show RAns (ruleD Y.data.toList) 0 ⟨#[]⟩ false false 0 false from rans_none (by rw [lY, hXd]; exact e2)) W hW)
        have HX := Lib.hid hX
        have HN := Lib.hid hnk
        clear e1 e2 e3 hX hnk hXd hY zY lY hXz
        have q0 := HWK.out.c1 k hlt
        rw [← HX.out] at q0
        go_wp2_with fail
        refine (K1.out _ (HG.out.keep HB.out)).mono ?_
        rintro e w51 ⟨rfl, hb⟩
        have HB_51 := Lib.hid (HB.out.trans (hb.mono HB.out.size))
        have HWK_51 := Lib.hid (HWK.out.keep hb)
        have HRa_51 := Lib.hid (HRa.out.keep hb)
        have HRb_51 := Lib.hid (HRb.out.keep hb)
        clear hb HB HWK HRa HRb K1
        clear q0
        obtain ⟨W52, hW⟩ : ∃ W, W = w51.alloc (.cells #[.int .u8 (nk : Int), .string ⟨#[]⟩, .bool false, .bool false, .int .u64 0] 25) := ⟨_, rfl⟩
        obtain ⟨g_k, hg⟩ : ∃ k, k = w51.heap.size := ⟨_, rfl⟩
        obtain ⟨hr, hb⟩ := rat_new w51 (nk : Int) ⟨#[]⟩ false false 0 W52 g_k hW hg
        have HB_52 := Lib.hid (HB_51.out.trans (hb.mono HB_51.out.size))
        have HWK_52 := Lib.hid (HWK_51.out.keep hb)
        have HRa_52 := Lib.hid (HRa_51.out.keep hb)
        have HRb_52 := Lib.hid (HRb_51.out.keep hb)
        have HRk_52 := Lib.hid hr
        clear hb hr HB_51 HWK_51 HRa_51 HRb_51
        go_upto_region 14 with fail
        rw [← hW, ← hg]
        clear hW hg
        have q0 := HWK_52.out.c1 k hlt
        rw [← HX.out] at q0
        go_wp2_with fail
        refine (K2.out _ (HG.out.keep HB_52.out)).mono ?_
        rintro e w53 ⟨rfl, hb⟩
        have HB_53 := Lib.hid (HB_52.out.trans (hb.mono HB_52.out.size))
        have HWK_53 := Lib.hid (HWK_52.out.keep hb)
        have HRa_53 := Lib.hid (HRa_52.out.keep hb)
        have HRb_53 := Lib.hid (HRb_52.out.keep hb)
        have HRk_53 := Lib.hid (HRk_52.out.keep hb)
        clear hb HB_52 HWK_52 HRa_52 HRb_52 HRk_52 K2
        clear q0
        obtain ⟨W54, hW⟩ : ∃ W, W = w53.alloc (.cells #[.int .u8 0, .string ⟨#[]⟩, .bool false, .bool false, .int .u64 0] 25) := ⟨_, rfl⟩
        obtain ⟨g_z, hg⟩ : ∃ k, k = w53.heap.size := ⟨_, rfl⟩
        obtain ⟨hr, hb⟩ := rat_new w53 0 ⟨#[]⟩ false false 0 W54 g_z hW hg
        have HB_54 := Lib.hid (HB_53.out.trans (hb.mono HB_53.out.size))
        have HWK_54 := Lib.hid (HWK_53.out.keep hb)
        have HRa_54 := Lib.hid (HRa_53.out.keep hb)
        have HRb_54 := Lib.hid (HRb_53.out.keep hb)
        have HRk_54 := Lib.hid (HRk_53.out.keep hb)
        have HRz_54 := Lib.hid hr
        clear hb hr HB_53 HWK_53 HRa_53 HRb_53 HRk_53
        go_upto_region 15 with fail
        rw [← hW, ← hg]
        clear hW hg
        have Pk := Lib.hid HRk_54.out.row
        have q1 := HWK_54.out.c2 k hlt
        rw [← HN.out] at q1
        have q2 := fun dd os => cell_regrown q1 dd os
        refine wp_region_quiet_below (by kernel_rfl) (by kernel_rfl) ?_
        repeat (any_goals (first
          | (refine wpQuiet_step (fun K hK => ?_); rw [if_pos (by rfl)]; (with_reducible refine quiet_load_rowB 25 (.tmp 20) rfl g_k rfl 25 _ Pk.out _ Tryd.underlying25 rfl (rule_cs (nk : Int) ⟨#[]⟩ false false 0) ?_); go_simp; refine hK _ ?_; clear hK K)
          | go_big_quiet_step (fail)))
        with_reducible refine wpQuiet_nil ?_
        intro _ hw'
        obtain ⟨⟨dq, osq⟩, hw''⟩ := hw'
        subst hw''
        have hb := below_regrown W54 dq osq
        have HB_70 := Lib.hid (HB_54.out.trans (hb.mono HB_54.out.size))
        have HWK_70 := Lib.hid (HWK_54.out.keep hb)
        have HRa_70 := Lib.hid (HRa_54.out.keep hb)
        have HRb_70 := Lib.hid (HRb_54.out.keep hb)
        have HRk_70 := Lib.hid (HRk_54.out.keep hb)
        have HRz_70 := Lib.hid (HRz_54.out.keep hb)
        clear hb q1 q2 Pk HB_54 HWK_54 HRa_54 HRb_54 HRk_54 HRz_54
        generalize grow (redrawn _ dq) osq = w71 at *
        go_wp2_with fail
        go_roundw
        case rel => exact ⟨k + 1, by omega, by go_num, HB_70, HWK_70, HRa_70, HRb_70⟩
        case measure => simp [intOf]; omega
      · have d1 : decide ((k : Int) < 7) = false := decide_eq_false (by omega)
        have d1n : decide (k < 7) = false := decide_eq_false hlt
        obtain ⟨a0, a1, a2, a3, a4⟩ := HRa.out.cells
        obtain ⟨b0, b1, b2, b3, b4⟩ := HRb.out.cells
        go_wp2_with fail
        go_ret
        exact ⟨rfl, HB.out⟩

end Go.Proofs.YtdhhiodnnnfioaaDoor.ruleRecords
