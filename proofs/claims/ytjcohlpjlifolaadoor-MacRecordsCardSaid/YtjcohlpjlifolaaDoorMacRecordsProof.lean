/-
  'MacRecords' of the program: for every input it answers true, and each argument reads behind the call as it read before: the statement's card, out of the walk in YtjcohlpjlifolaaDoorMacRecordsWalk. The frame is written by program (tools/mkframe.py of this repository).
-/
import Derived.Test.YtjcohlpjlifolaaDoorMacRecordsWalk
import Derived.Test.YtjcohlpjlifolaaDoorWit
import Derived.ProofKit
import Derived.OpenShut
import Derived.SizedLaws
import Derived.ShutString
import Derived.Test.YtjcohlpjlifolaaDoorShaFrame
import Derived.Carry
import Derived.Test.YtjcohlpjlifolaaDoorShaFrameNil
import Derived.Test.YtjcohlpjlifolaaDoorMacFrame
namespace Go.Proofs.YtjcohlpjlifolaaDoor.macRecords
open Go.ChangeShapes Go.WideShapes Go.ChangeAt Go.RowKit Wit
open Go.ChangeMaps (open_string shut_string)
set_option linter.unusedVariables false
set_option maxRecDepth 100000

theorem star : "*" ++ "errors.errorString" = "*errors.errorString" := by decide
theorem errRow (u : TypeId) (h : Tryd.prog.typeName? 3 u = some "*errors.errorString") : u = 132 :=
  typeName_ptr_named (nm := "errors.errorString") (by rw [star]; kernel_rfl) (by kernel_rfl) (by decide) u (by rw [star]; exact h)
theorem good_ShaT_Tabs {W : World} (hL : laidMetH Tryd.prog Rows.macRecordsRow.laid W) : ShaT.Tabs W := by
  have h0 : laidMet Tryd.prog Rows.macRecordsRow.laid W := hL
  have h1 := h0.tail
  have h2 := h1.tail
  have h3 := h2.tail
  have v3 : Lib.TabIs Tryd.prog W "tipstaff/sha.firstWords" .u32 [1779033703, 3144134277, 1013904242, 2773480762, 1359893119, 2600822924, 528734635, 1541459225] := Lib.tabIs_of_head (g := 0) (t := 59) (e := 58) (n := 8) (by kernel_rfl) (by kernel_rfl) Tryd.underlying59 Tryd.underlying58 (by kernel_rfl) (by kernel_rfl) h3
  have h4 := h3.tail
  have v4 : Lib.TabIs Tryd.prog W "tipstaff/sha.roundWords" .u32 [1116352408, 1899447441, 3049323471, 3921009573, 961987163, 1508970993, 2453635748, 2870763221, 3624381080, 310598401, 607225278, 1426881987, 1925078388, 2162078206, 2614888103, 3248222580, 3835390401, 4022224774, 264347078, 604807628, 770255983, 1249150122, 1555081692, 1996064986, 2554220882, 2821834349, 2952996808, 3210313671, 3336571891, 3584528711, 113926993, 338241895, 666307205, 773529912, 1294757372, 1396182291, 1695183700, 1986661051, 2177026350, 2456956037, 2730485921, 2820302411, 3259730800, 3345764771, 3516065817, 3600352804, 4094571909, 275423344, 430227734, 506948616, 659060556, 883997877, 958139571, 1322822218, 1537002063, 1747873779, 1955562222, 2024104815, 2227730452, 2361852424, 2428436474, 2756734187, 3204031479, 3329325298] := Lib.tabIs_of_head (g := 1) (t := 61) (e := 58) (n := 64) (by kernel_rfl) (by kernel_rfl) Tryd.underlying61 Tryd.underlying58 (by kernel_rfl) (by kernel_rfl) h4
  have h5 := h4.tail
  have h6 := h5.tail
  have h7 := h6.tail
  have h8 := h7.tail
  exact ⟨ShaT.tb_of_var (show Tryd.prog.globalNamed "tipstaff/sha.firstWords" = some 0 by kernel_rfl) v3 (by kernel_rfl), ShaT.tb_of_var (show Tryd.prog.globalNamed "tipstaff/sha.roundWords" = some 1 by kernel_rfl) v4 (by kernel_rfl)⟩

theorem good_NumL_Gd {W : World} (hL : laidMetH Tryd.prog Rows.macRecordsRow.laid W) : NumL.Gd W := by
  have h0 : laidMet Tryd.prog Rows.macRecordsRow.laid W := hL
  have h1 := h0.tail
  have h2 := h1.tail
  have v2 : Lib.TabIs Tryd.prog W "internal/strconv.uint64pow10" .u64 [1, 10, 100, 1000, 10000, 100000, 1000000, 10000000, 100000000, 1000000000, 10000000000, 100000000000, 1000000000000, 10000000000000, 100000000000000, 1000000000000000, 10000000000000000, 100000000000000000, 1000000000000000000, 10000000000000000000] := Lib.tabIs_of_head (g := 2) (t := 114) (e := 67) (n := 20) (by kernel_rfl) (by kernel_rfl) Tryd.underlying114 Tryd.underlying67 (by kernel_rfl) (by kernel_rfl) h2
  have h3 := h2.tail
  have h4 := h3.tail
  have h5 := h4.tail
  have h6 := h5.tail
  obtain ⟨b6, s6, v6, -, -, -⟩ := laid_sentinel h6 (show Tryd.prog.globalNamed "strconv.ErrRange" = some 5 by kernel_rfl) (show (Tryd.prog.globals[5]?).map (·.type) = some 87 by kernel_rfl) Tryd.underlying87 errRow Tryd.underlying132 Tryd.underlying134 rfl rfl Tryd.underlying9 (by kernel_rfl) (by kernel_rfl)
  have h7 := h6.tail
  obtain ⟨b7, s7, v7, -, -, -⟩ := laid_sentinel h7 (show Tryd.prog.globalNamed "strconv.ErrSyntax" = some 4 by kernel_rfl) (show (Tryd.prog.globals[4]?).map (·.type) = some 87 by kernel_rfl) Tryd.underlying87 errRow Tryd.underlying132 Tryd.underlying134 rfl rfl Tryd.underlying9 (by kernel_rfl) (by kernel_rfl)
  have h8 := h7.tail
  exact ⟨(by rw [show Lib.pow10Tab = [1, 10, 100, 1000, 10000, 100000, 1000000, 10000000, 100000000, 1000000000, 10000000000, 100000000000, 1000000000000, 10000000000000, 100000000000000, 1000000000000000, 10000000000000000, 100000000000000000, 1000000000000000000, 10000000000000000000] by decide +kernel]; exact v2), ⟨_, _, v7⟩, ⟨_, _, v6⟩⟩

theorem contract (H : Type) (enc : TypeId × Value → H) (W : World) (base : Nat) (args : Array Value) (ds gs : List (DataW H)) (before : List MemPlace)
    (hval0 : ∀ (j : Nat) t v, Tryd.f4.params[j]? = some t → args[j]? = some v → Value.okWide Tryd.prog W .any base t v)
    (hW : DataW.Whole enc Tryd.prog Tryd.f4.params.toList Rows.macRecordsSpec.vars false W args.toList ds gs before) (hL : laidMetH Tryd.prog Rows.macRecordsRow.laid W) (hSh : W.ShapedOpen Tryd.prog)
    (hsz : (DataW.weightsEach Tryd.prog (Tryd.f4.params.toList ++ Rows.macRecordsSpec.plain.varTypes Tryd.prog) (ds ++ gs)).all (· ≤ reachBytes) = true) :
    Calls Tryd.prog 4 args W fun e W' => ∃ v, e = .returned v ∧ Rows.macRecordsSpec.post enc Tryd.prog Tryd.f4 false true false false W args v W' := by
  have hval : ∀ (j : Nat) t v, Tryd.f4.params[j]? = some t → args[j]? = some v → Value.okWide Tryd.prog W .any base t v := hval0
  have hW' := hW
  obtain ⟨p, q, hA0, hV, rfl, hfz, hnd⟩ := hW
  have hA : DataW.TrodAll enc Tryd.prog W 0 (fun _ => true) true Tryd.f4.params.toList args.toList ds p := hA0
  rw [Tryd.params4] at hA hval hsz
  obtain ⟨v0, vs0, d0, ds0, p0, q0, hargs, rfl, rfl, h0, r0⟩ := trodAll_cons hA
  obtain ⟨v1, vs1, d1, ds1, p1, q1, rfl, rfl, rfl, h1, r1⟩ := trodAll_cons r0
  obtain ⟨v2, vs2, d2, ds2, p2, q2, rfl, rfl, rfl, h2, r2⟩ := trodAll_cons r1
  obtain ⟨rfl, rfl, rfl⟩ := trodAll_nil r2
  obtain rfl : args = #[v0, v1, v2] := by cases args; simp_all
  obtain ⟨rfl, rfl⟩ := trodVars_none hV
  obtain ⟨a0, rfl, rfl, rfl, w0⟩ := open_string Tryd.underlying9 (hval 0 9 v0 rfl rfl) h0
  have z0 : a0.size ≤ 140737488351232 := by
    have h1 := sized_string hsz (j := 0) (t := 9) rfl rfl
    have e2 : a0.data.toList.length = a0.data.size := Array.length_toList
    have e1 : a0.size = a0.data.size := rfl
    have e3 : reachBytes = 140737488351232 := by decide
    omega
  have k1 := h1
  obtain ⟨s1, a1, c1, rfl, f1, g1, m1, u1, w1⟩ := ShaT.open_bs_nil (hval 1 22 v1 rfl rfl) h1
  have z1 : a1.length ≤ 140737488351232 := by
    have e3 : reachBytes = 140737488351232 := by decide
    rcases w1 with ⟨-, h0⟩ | ⟨el, sp, rfl, h0⟩
    · omega
    · have h1 := sized_slice hsz (j := 1) (t := 22) rfl rfl Tryd.underlying22
      rw [show Tryd.prog.bytesOf 5 = 1 by kernel_rfl] at h1
      omega
  have l1 : ∀ x ∈ p1, x.block < W.heap.size := fun x hx => by
    have h1 := hW'.lt x (by simp [hx])
    simpa using h1
  obtain ⟨a2, b2, rfl, rfl, rfl, w2, x2⟩ := MacT.open_case (hval 2 31 v2 rfl rfl) h2
  obtain ⟨y2, z2⟩ := bounds_i64 w2
  have zz2 := MacT.size_case hsz 2 rfl rfl
  clear hA0 hval0
  refine (walk a0 s1 a1 c1 a2 b2 W z0 f1 z1 g1 m1 u1 y2 z2 zz2 (good_ShaT_Tabs hL) (good_NumL_Gd hL) (MacT.Mx.of_shape hSh)).mono fun e W' ⟨he, bel⟩ => ?_
  subst he
  exact ⟨_, rfl, _, _, _, [], _, [], hW', trodAll_mk1 (shut_bool Tryd.underlying4 _), (trodAll_cons_mk (shut_string Tryd.underlying9 w0) (trodAll_cons_mk (Below.trod laidOut (by kernel_rfl) (of_decide_eq_true (by kernel_rfl)) k1 bel l1) (trodAll_cons_mk (MacT.shut_case w2 x2) trodAll_mk0))), rfl, bel.frame _, fun h => by cases h⟩

theorem laid_met (os : Os) : laidMet Tryd.prog Rows.macRecordsRow.laid ((laidWorld os).forCall (fun _ _ => 0) ⟨#[], #[.string ⟨#[]⟩, .slice none 0 0, .agg #[.int .i64 0, .string ⟨#[]⟩]], []⟩).memory :=
  laidMet_of_run' 8 (by kernel_rfl) (by kernel_rfl)
theorem reads (os : Os) {H : Type} (enc : TypeId × Value → H) : ∃ places, DataW.whole enc Tryd.prog ((laidWorld os).forCall (fun _ _ => 0) ⟨#[], #[.string ⟨#[]⟩, .slice none 0 0, .agg #[.int .i64 0, .string ⟨#[]⟩]], []⟩).memory Tryd.f4.params.toList Rows.macRecordsSpec.vars false (#[.string ⟨#[]⟩, .slice none 0 0, .agg #[.int .i64 0, .string ⟨#[]⟩]] : Array Value).toList 8 = some ([.lit (.string []), .nil, .agg [.lit (.int .i64 0), .lit (.string [])]], [], places) :=
  ⟨[], by kernel_rfl⟩

set_option maxRecDepth 100000 in
theorem lifted (os : Os) (started : os.Started) (H : Type) (enc : TypeId × Value → H) (F : Stop.Interp) :
    ReturnsInHanded {} Tryd.checked os 4 .any ((OpenSpec.ofChange Rows.macRecordsSpec).preRow enc Tryd.prog Tryd.f4 Rows.macRecordsRow.domain false Rows.macRecordsRow.laid) (((OpenSpec.ofChange Rows.macRecordsSpec).at F).post enc Tryd.prog Tryd.f4 false true false false) := by
  obtain ⟨places, hx⟩ := reads os enc
  refine returnsInHanded_of_row (C := Tryd.checked) (s := OpenSpec.ofChange Rows.macRecordsSpec) own started (by kernel_rfl) Tryd.func4
    (witness_row_at (enc := enc) (C := Tryd.checked) false (laidWorld os) #[.string ⟨#[]⟩, .slice none 0 0, .agg #[.int .i64 0, .string ⟨#[]⟩]] rfl (by kernel_rfl) (by kernel_rfl) (by kernel_rfl)
      (OpenSpec.preRow_of_cond 8 hx (by kernel_rfl) (fun k hk => by cases hk) (by kernel_rfl) (laid_met os))) ?_
  intro W base args ds gs before hval hW _ _ hsz hL hSh _
  exact contract H enc W base args ds gs before hval hW hL hSh hsz

theorem said : Rows.MacRecordsSaid :=
  OpenClaim.holds_of_cond 4 Tryd.f4 rfl rfl rfl rfl rfl rfl rfl ⟨rfl, rfl, rfl, rfl, rfl⟩ rfl rfl rfl rfl rfl (by kernel_rfl) Tryd.func4 (by kernel_rfl)
    (of_decide_eq_true (by kernel_rfl)) (by unfold Func.isWrapper; first | (rw [if_pos (by decide +kernel)]; kernel_rfl) | (rw [if_neg (by decide +kernel)]; exact ⟨rfl, rfl⟩))
    (fun os started H enc _ F => by rw [OpenClaim.pre_eq_preRow]; exact lifted os started H enc F)

theorem plain (f : FuncId) (fn : Func) (hf : Tryd.pinned.checked.prog.funcNamed "tipstaff/tipstafflaw03.MacRecords" = some f) (hfn : Tryd.pinned.checked.prog.funcs[f]? = some fn) :
    true = Tryd.pinned.checked.prog.looks [] ∧ ∀ (j : Nat) t, fn.params[j]? = some t → Tryd.pinned.checked.prog.wantsStandIn t = false := by
  obtain rfl : f = 4 := Option.some.inj ((show Tryd.prog.funcNamed "tipstaff/tipstafflaw03.MacRecords" = some 4 by kernel_rfl).symm.trans hf) |>.symm
  obtain rfl : fn = Tryd.f4 := (Option.some.inj (Tryd.func4.symm.trans hfn)).symm
  refine ⟨by kernel_rfl, fun j t ht => ?_⟩
  rw [Tryd.params4] at ht
  have hm := Array.mem_of_getElem? ht
  have hall : (#[9, 22, 31] : Array TypeId).all (fun t => Tryd.prog.wantsStandIn t == false) = true := by kernel_rfl
  exact beq_iff_eq.1 (Array.all_eq_true_iff_forall_mem.1 hall t hm)

/-- THE STATEMENT: the card. -/
theorem proved : Rows.MacRecordsCardSaid :=
  Claim7.holds_tied_plain_at .later [] _ _ _ _ said (fun _ h => by cases h) (by kernel_rfl) (fun _ h => by cases h) macRecords_row_tie rfl ⟨rfl, rfl⟩ (by kernel_rfl) rfl plain (by kernel_rfl)
end Go.Proofs.YtjcohlpjlifolaaDoor.macRecords
