/-
  The frame of UserBoth (tools/mkframe.py).
-/
import Derived.Test.YtpoinibckmbfcaaGreatDoorUserBothPkWalk
namespace Go.Proofs.YtpoinibckmbfcaaGreatDoor.userBoth
open Go.ChangeShapes Go.WideShapes Go.ChangeAt Go.RowKit Wit
open Go.ChangeMaps (open_string shut_string)
set_option linter.unusedVariables false
set_option maxRecDepth 100000
theorem star : "*" ++ "errors.errorString" = "*errors.errorString" := by decide
theorem errRow (u : TypeId) (h : Tryz.prog.typeName? 3 u = some "*errors.errorString") : u = 208 :=
 typeName_ptr_named (nm := "errors.errorString") (by rw [star]; kernel_rfl) (by kernel_rfl) (by decide) u (by rw [star]; exact h)
theorem good_NumL_Gd {W : World} (hL : laidMetH Tryz.prog Rows.userBothRow.laid W) : NumL.Gd W := by
 have h0 : laidMet Tryz.prog Rows.userBothRow.laid W := hL
 have h1 := h0.tail
 have h2 := h1.tail
 have v2 : Lib.TabIs Tryz.prog W "internal/strconv.uint64pow10" .u64 [1,10,100,1000,10000,100000,1000000,10000000,100000000,1000000000,10000000000,100000000000,1000000000000,10000000000000,100000000000000,1000000000000000,10000000000000000,100000000000000000,1000000000000000000,10000000000000000000] := Lib.tabIs_of_head (g := 8) (t := 204) (e := 23) (n := 20) (by kernel_rfl) (by kernel_rfl) Tryz.underlying204 Tryz.underlying23 (by kernel_rfl) (by kernel_rfl) h2
 have h3 := h2.tail
 have h4 := h3.tail
 have h5 := h4.tail
 have h6 := h5.tail
 obtain ⟨b6,s6,v6,-,-,-⟩ := laid_sentinel h6 (show Tryz.prog.globalNamed "strconv.ErrRange" = some 7 by kernel_rfl) (show (Tryz.prog.globals[7]?).map (·.type) = some 112 by kernel_rfl) Tryz.underlying112 errRow Tryz.underlying208 Tryz.underlying210 rfl rfl Tryz.underlying9 (by kernel_rfl) (by kernel_rfl)
 have h7 := h6.tail
 obtain ⟨b7,s7,v7,-,-,-⟩ := laid_sentinel h7 (show Tryz.prog.globalNamed "strconv.ErrSyntax" = some 6 by kernel_rfl) (show (Tryz.prog.globals[6]?).map (·.type) = some 112 by kernel_rfl) Tryz.underlying112 errRow Tryz.underlying208 Tryz.underlying210 rfl rfl Tryz.underlying9 (by kernel_rfl) (by kernel_rfl)
 have h8 := h7.tail
 exact ⟨(by rw [show Lib.pow10Tab = [1,10,100,1000,10000,100000,1000000,10000000,100000000,1000000000,10000000000,100000000000,1000000000000,10000000000000,100000000000000,1000000000000000,10000000000000000,100000000000000000,1000000000000000000,10000000000000000000] by decide +kernel]; exact v2),⟨_,_,v7⟩,⟨_,_,v6⟩⟩
theorem good_ShaT_Tabs {W : World} (hL : laidMetH Tryz.prog Rows.userBothRow.laid W) : ShaT.Tabs W := by
 have h0 : laidMet Tryz.prog Rows.userBothRow.laid W := hL
 have h1 := h0.tail
 have h2 := h1.tail
 have h3 := h2.tail
 have v3 : Lib.TabIs Tryz.prog W "tipstaff/sha.firstWords" .u32 [1779033703,3144134277,1013904242,2773480762,1359893119,2600822924,528734635,1541459225] := Lib.tabIs_of_head (g := 2) (t := 168) (e := 167) (n := 8) (by kernel_rfl) (by kernel_rfl) Tryz.underlying168 Tryz.underlying167 (by kernel_rfl) (by kernel_rfl) h3
 have h4 := h3.tail
 have v4 : Lib.TabIs Tryz.prog W "tipstaff/sha.roundWords" .u32 [1116352408,1899447441,3049323471,3921009573,961987163,1508970993,2453635748,2870763221,3624381080,310598401,607225278,1426881987,1925078388,2162078206,2614888103,3248222580,3835390401,4022224774,264347078,604807628,770255983,1249150122,1555081692,1996064986,2554220882,2821834349,2952996808,3210313671,3336571891,3584528711,113926993,338241895,666307205,773529912,1294757372,1396182291,1695183700,1986661051,2177026350,2456956037,2730485921,2820302411,3259730800,3345764771,3516065817,3600352804,4094571909,275423344,430227734,506948616,659060556,883997877,958139571,1322822218,1537002063,1747873779,1955562222,2024104815,2227730452,2361852424,2428436474,2756734187,3204031479,3329325298] := Lib.tabIs_of_head (g := 5) (t := 170) (e := 167) (n := 64) (by kernel_rfl) (by kernel_rfl) Tryz.underlying170 Tryz.underlying167 (by kernel_rfl) (by kernel_rfl) h4
 have h5 := h4.tail
 have h6 := h5.tail
 have h7 := h6.tail
 have h8 := h7.tail
 exact ⟨ShaT.tb_of_var (show Tryz.prog.globalNamed "tipstaff/sha.firstWords" = some 2 by kernel_rfl) v3 (by kernel_rfl),ShaT.tb_of_var (show Tryz.prog.globalNamed "tipstaff/sha.roundWords" = some 5 by kernel_rfl) v4 (by kernel_rfl)⟩
theorem good_UserM_Tz {W : World} (hL : laidMetH Tryz.prog Rows.userBothRow.laid W) : UserM.Tz W := by
 have h0 : laidMet Tryz.prog Rows.userBothRow.laid W := hL
 have h1 := h0.tail
 have v1 : Lib.TabIs Tryz.prog W "math/bits.deBruijn64tab" .u8 [0,1,56,2,57,49,28,3,61,58,42,50,38,29,17,4,62,47,59,36,45,43,51,22,53,39,33,30,24,18,12,5,63,55,48,27,60,41,37,16,46,35,44,21,52,32,23,11,54,26,40,15,34,20,31,10,25,14,19,9,13,8,7,6] := Lib.tabIs_of_head (g := 0) (t := 140) (e := 5) (n := 64) (by kernel_rfl) (by kernel_rfl) Tryz.underlying140 Tryz.underlying5 (by kernel_rfl) (by kernel_rfl) h1
 have h2 := h1.tail
 have h3 := h2.tail
 have h4 := h3.tail
 have h5 := h4.tail
 have h6 := h5.tail
 have h7 := h6.tail
 have h8 := h7.tail
 exact ⟨(by rw [show (Lib.deBruijn64tab.map fun (n : Nat) => (n : Int)) = [0,1,56,2,57,49,28,3,61,58,42,50,38,29,17,4,62,47,59,36,45,43,51,22,53,39,33,30,24,18,12,5,63,55,48,27,60,41,37,16,46,35,44,21,52,32,23,11,54,26,40,15,34,20,31,10,25,14,19,9,13,8,7,6] by decide +kernel]; exact v1)⟩
theorem contract (H : Type) (enc : TypeId × Value → H) (W : World) (base : Nat) (args : Array Value) (ds gs : List (DataW H)) (before : List MemPlace)
    (hval0 : ∀ (j : Nat) t v,Tryz.f6.params[j]? = some t → args[j]? = some v → Value.okWide Tryz.prog W .any base t v)
    (hW : DataW.Whole enc Tryz.prog Tryz.f6.params.toList Rows.userBothSpec.vars false W args.toList ds gs before) (hL : laidMetH Tryz.prog Rows.userBothRow.laid W) (hSh : W.ShapedOpen Tryz.prog)
    (hsz : (DataW.weightsEach Tryz.prog (Tryz.f6.params.toList ++ Rows.userBothSpec.plain.varTypes Tryz.prog) (ds ++ gs)).all (· ≤ reachBytes) = true) :
    Calls Tryz.prog 6 args W fun e W' => ∃ v,e = .returned v ∧ Rows.userBothSpec.post enc Tryz.prog Tryz.f6 false true false false W args v W' := by
  have hval : ∀ (j : Nat) t v,Tryz.f6.params[j]? = some t → args[j]? = some v → Value.okWide Tryz.prog W .any base t v := hval0
  have hW' := hW
  obtain ⟨p,q,hA0,hV,rfl,hfz,hnd⟩ := hW
  have hA : DataW.TrodAll enc Tryz.prog W 0 (fun _ => true) true Tryz.f6.params.toList args.toList ds p := hA0
  rw [Tryz.params6] at hA hval hsz
  obtain ⟨v0,vs0,d0,ds0,p0,q0,hargs,rfl,rfl,h0,r0⟩ := trodAll_cons hA
  obtain ⟨v1,vs1,d1,ds1,p1,q1,rfl,rfl,rfl,h1,r1⟩ := trodAll_cons r0
  obtain ⟨v2,vs2,d2,ds2,p2,q2,rfl,rfl,rfl,h2,r2⟩ := trodAll_cons r1
  obtain ⟨rfl,rfl,rfl⟩ := trodAll_nil r2
  obtain rfl : args = #[v0,v1,v2] := by cases args; simp_all
  obtain ⟨rfl,rfl⟩ := trodVars_none hV
  have k0 := h0
  obtain ⟨s0,a0,c0,rfl,f0,g0,m0,u0,n0,w0⟩ := RulT.open_rules (hval 0 27 v0 rfl rfl) h0
  have l0 : ∀ x ∈ p0,x.block < W.heap.size := fun x hx => by
   have h1 := hW'.lt x (by simp [hx])
   simpa using h1
  obtain ⟨a1,rfl,rfl,rfl⟩ := open_bool Tryz.underlying4 (hval 1 4 v1 rfl rfl) h1
  obtain ⟨a2,rfl,rfl,rfl,w2⟩ := open_string Tryz.underlying9 (hval 2 9 v2 rfl rfl) h2
  have z2 : a2.size ≤ 140737488351232 := by
   have h1 := sized_string hsz (j := 2) (t := 9) rfl rfl
   have e2 : a2.data.toList.length = a2.data.size := Array.length_toList
   have e1 : a2.size = a2.data.size := rfl
   have e3 : reachBytes = 140737488351232 := by decide
   omega
  clear hA0 hval0
  refine (walk s0 a0 a0.length c0 a1 a2 W rfl (RulT.size_rules hsz 0 rfl rfl w0) f0 n0 z2 (good_NumL_Gd hL) (MacT.Mx.of_shape hSh) (good_ShaT_Tabs hL) (good_UserM_Tz hL)).mono fun e W' ⟨he,bel⟩ => ?_
  subst he
  exact ⟨_,rfl,_,_,_,[],_,[],hW',trodAll_mk1 (shut_bool Tryz.underlying4 _),(trodAll_cons_mk (Below.trod laidOut (by kernel_rfl) (of_decide_eq_true (by kernel_rfl)) k0 bel l0) (trodAll_cons_mk (shut_bool Tryz.underlying4 _) (trodAll_cons_mk (shut_string Tryz.underlying9 w2) trodAll_mk0))),rfl,bel.frame _,fun h => by cases h⟩
theorem laid_met (os : Os) : laidMet Tryz.prog Rows.userBothRow.laid ((laidWorld os).forCall (fun _ _ => 0) ⟨#[],#[.slice none 0 0,.bool false,.string ⟨#[]⟩],[]⟩).memory :=
 laidMet_of_run' 8 (by kernel_rfl) (by kernel_rfl)
theorem reads (os : Os) {H : Type} (enc : TypeId × Value → H) : ∃ places,DataW.whole enc Tryz.prog ((laidWorld os).forCall (fun _ _ => 0) ⟨#[],#[.slice none 0 0,.bool false,.string ⟨#[]⟩],[]⟩).memory Tryz.f6.params.toList Rows.userBothSpec.vars false (#[.slice none 0 0,.bool false,.string ⟨#[]⟩] : Array Value).toList 8 = some ([.nil,.lit (.bool false),.lit (.string [])],[],places) :=
 ⟨[],by kernel_rfl⟩
set_option maxRecDepth 100000 in
theorem lifted (os : Os) (started : os.Started) (H : Type) (enc : TypeId × Value → H) (F : Stop.Interp) :
  ReturnsInHanded {} Tryz.checked os 6 .any ((OpenSpec.ofChange Rows.userBothSpec).preRow enc Tryz.prog Tryz.f6 Rows.userBothRow.domain false Rows.userBothRow.laid) (((OpenSpec.ofChange Rows.userBothSpec).at F).post enc Tryz.prog Tryz.f6 false true false false) := by
 obtain ⟨places,hx⟩ := reads os enc
 refine returnsInHanded_of_row (C := Tryz.checked) (s := OpenSpec.ofChange Rows.userBothSpec) own started (by kernel_rfl) Tryz.func6
   (witness_row_at (enc := enc) (C := Tryz.checked) false (laidWorld os) #[.slice none 0 0,.bool false,.string ⟨#[]⟩] rfl (by kernel_rfl) (by kernel_rfl) (by kernel_rfl)
     (OpenSpec.preRow_of_cond 8 hx (by kernel_rfl) (fun k hk => by cases hk) (by kernel_rfl) (laid_met os))) ?_
 intro W base args ds gs before hval hW _ _ hsz hL hSh _
 exact contract H enc W base args ds gs before hval hW hL hSh hsz
theorem said : Rows.UserBothSaid :=
 OpenClaim.holds_of_cond 6 Tryz.f6 rfl rfl rfl rfl rfl rfl rfl ⟨rfl,rfl,rfl,rfl,rfl⟩ rfl rfl rfl rfl rfl (by kernel_rfl) Tryz.func6 (by kernel_rfl)
   (of_decide_eq_true (by kernel_rfl)) (by unfold Func.isWrapper; first | (rw [if_pos (by decide +kernel)]; kernel_rfl) | (rw [if_neg (by decide +kernel)]; exact ⟨rfl,rfl⟩))
   (fun os started H enc _ F => by rw [OpenClaim.pre_eq_preRow]; exact lifted os started H enc F)
theorem plain (f : FuncId) (fn : Func) (hf : Tryz.pinned.checked.prog.funcNamed "tipstaff/tipstafflaw18.UserBoth" = some f) (hfn : Tryz.pinned.checked.prog.funcs[f]? = some fn) :
  true = Tryz.pinned.checked.prog.looks [] ∧ ∀ (j : Nat) t,fn.params[j]? = some t → Tryz.pinned.checked.prog.wantsStandIn t = false := by
 obtain rfl : f = 6 := Option.some.inj ((show Tryz.prog.funcNamed "tipstaff/tipstafflaw18.UserBoth" = some 6 by kernel_rfl).symm.trans hf) |>.symm
 obtain rfl : fn = Tryz.f6 := (Option.some.inj (Tryz.func6.symm.trans hfn)).symm
 refine ⟨by kernel_rfl,fun j t ht => ?_⟩
 rw [Tryz.params6] at ht
 have hm := Array.mem_of_getElem? ht
 have hall : (#[27,4,9] : Array TypeId).all (fun t => Tryz.prog.wantsStandIn t == false) = true := by kernel_rfl
 exact beq_iff_eq.1 (Array.all_eq_true_iff_forall_mem.1 hall t hm)
theorem proved : Rows.UserBothCardSaid :=
 Claim7.holds_tied_plain_at .later [] _ _ _ _ said (fun _ h => by cases h) (by kernel_rfl) (fun _ h => by cases h) userBoth_row_tie rfl ⟨rfl,rfl⟩ (by kernel_rfl) rfl plain (by kernel_rfl)
end Go.Proofs.YtpoinibckmbfcaaGreatDoor.userBoth
