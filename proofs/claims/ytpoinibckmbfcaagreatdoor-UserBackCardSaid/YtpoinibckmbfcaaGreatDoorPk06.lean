/-
  Packed by program.
-/
import Derived.Lib.AtoiErrMem
import Derived.StillTail
import Derived.Deep.Quiet
import Derived.Test.YtpoinibckmbfcaaGreatDoorPk05
import Derived.Test.YtpoinibckmbfcaaGreatDoorPk02
namespace Go.Proofs.YtpoinibckmbfcaaGreatDoor.NumL
open Go.RowKit Kit NumMath
open Go.Sort (grow)
set_option maxRecDepth 100000
theorem below_grow (w : World) (q : Nat) (os : Array Obj) : Below w.heap.size w (grow (w.drewN q) os) :=
 ⟨rfl, rfl, rfl, by show w.heap.size ≤ (w.heap ++ os).size; simp, fun k hk => by show (w.heap ++ os)[k]? = _; exact Array.getElem?_append_left hk⟩
structure Gd (w : World) : Prop where
 tab : Lib.TabIs Tryz.prog w "internal/strconv.uint64pow10" .u64 Lib.pow10Tab
 syn : ∃ tp p, w.var? Tryz.prog "strconv.ErrSyntax" = some #[.iface tp p]
 rng : ∃ tp p, w.var? Tryz.prog "strconv.ErrRange" = some #[.iface tp p]
theorem Gd.keep {w w' : World} (h : Gd w) (hb : Below w.heap.size w w') : Gd w' := by
 obtain ⟨tp, p, h1⟩ := h.syn
 obtain ⟨tq, q, h2⟩ := h.rng
 exact ⟨var_keep hb h.tab, ⟨tp, p, var_keep hb h1⟩, ⟨tq, q, var_keep hb h2⟩⟩
structure Gt (w : World) : Prop where
 tab : Lib.TabIs Tryz.prog w "internal/strconv.uint64pow10" .u64 Lib.pow10Tab
theorem Gt.keep {w w' : World} (h : Gt w) (hb : Below w.heap.size w w') : Gt w' := ⟨var_keep hb h.tab⟩
theorem Gd.gt {w : World} (h : Gd w) : Gt w := ⟨h.tab⟩
instance {w : World} : Coe (Gd w) (Gt w) := ⟨Gd.gt⟩
theorem text_t (n : Int) (h0 : -9223372036854775808 ≤ n) (h1 : n ≤ 9223372036854775807) (w : World) (hg : Gt w) :
  Calls Tryz.prog 104 #[.int .i64 n] w fun e w' => e = .returned (.string ⟨(Lib.itoa n).toArray⟩) ∧ Below w.heap.size w w' := by
 have c := fun W (h : Gt W) => (Tryz.strconv_Itoa n h0 h1 W h.tab).mono (R' := fun e w' => e = .returned (.string ⟨(Lib.itoa n).toArray⟩) ∧ Below W.heap.size W w') fun e w' ⟨he, k, os, hw⟩ => ⟨he, by rw [hw]; exact below_grow _ _ _⟩
 have C := Lib.hid c
 have G := Lib.hid hg
 clear c hg
 go_enter Tryz.func104, Tryz.ntmps104
 go_wp2_with fail
 refine (C.out _ G.out).mono ?_
 rintro e w' ⟨rfl, hb⟩
 go_wp2_with fail
 go_ret
 exact ⟨rfl, hb⟩
theorem itoa_any (n : Int) (h0 : -9223372036854775808 ≤ n) (h1 : n ≤ 9223372036854775807) (w : World) (hg : Gd w) :
  Calls Tryz.prog 134 #[.int .i64 n] w fun e w' => e = .returned (.string ⟨(Lib.itoa n).toArray⟩) ∧ Below w.heap.size w w' :=
 (Tryz.strconv_Itoa n h0 h1 w hg.tab).mono fun e w' ⟨he, k, os, hw⟩ => ⟨he, by rw [hw]; exact below_grow _ _ _⟩
theorem text_any (n : Int) (h0 : -9223372036854775808 ≤ n) (h1 : n ≤ 9223372036854775807) (w : World) (hg : Gd w) :
  Calls Tryz.prog 104 #[.int .i64 n] w fun e w' => e = .returned (.string ⟨(Lib.itoa n).toArray⟩) ∧ Below w.heap.size w w' := by
 have c := fun W (h : Gd W) => itoa_any n h0 h1 W h
 have C := Lib.hid c
 have G := Lib.hid hg
 clear c hg
 go_enter Tryz.func104, Tryz.ntmps104
 go_wp2_with fail
 refine (C.out _ G.out).mono ?_
 rintro e w' ⟨rfl, hb⟩
 go_wp2
 go_ret
 exact ⟨rfl, hb⟩
def pV (l : List UInt8) : Int := (parse l).getD 0
def pB (l : List UInt8) : Bool := (parse l).isSome
theorem parse_ok {l : List UInt8} {v : Int} (h : Lib.atoiAll l = .ok v) (he : Lib.itoa v = l) : pV l = v ∧ pB l = true := by
 have : parse l = some v := by unfold parse; rw [h]; simp [he]
 simp [pV, pB, this]
theorem parse_un {l : List UInt8} {v : Int} (h : Lib.atoiAll l = .ok v) (he : Lib.itoa v ≠ l) : pV l = 0 ∧ pB l = false := by
 have : parse l = none := by unfold parse; rw [h]; simp [he]
 simp [pV, pB, this]
theorem parse_bad {l : List UInt8} (h : ∀ v, Lib.atoiAll l ≠ .ok v) : pV l = 0 ∧ pB l = false := by
 have : parse l = none := by
  unfold parse
  split
  · rename_i v hv
    exact absurd hv (h v)
  · rfl
 simp [pV, pB, this]
end Go.Proofs.YtpoinibckmbfcaaGreatDoor.NumL
namespace Go.Proofs.YtpoinibckmbfcaaGreatDoor.NumL
open Go.RowKit Kit NumMath
open Go.Sort (grow)
set_option maxRecDepth 100000
def AtoiFails (s : ByteArray) (W : World) : Prop :=
 Calls Tryz.prog 141 #[.string s] W fun e w' => ∃ (x : Int) (N : Nat), e = .returned (.tuple #[.int .i64 x, .iface 189 (.pointer (some ⟨N, 0, none⟩))]) ∧ Below W.heap.size W w'
theorem atoi_fails (s : ByteArray) (hlim : s.size ≤ 281474976710656) (h : ∀ v, Lib.atoiAll s.data.toList ≠ .ok v) (W : World) (hg : Gd W) : AtoiFails s W := by
 obtain ⟨tp, p, h1⟩ := hg.syn
 obtain ⟨tq, q, h2⟩ := hg.rng
 rcases hh : Lib.atoiAll s.data.toList with v | _ | _
 · exact absurd hh (h v)
 · exact (Any.strconv_Atoi_syntax_var Tryz.laysC172 s hlim hh tp p W h1).mono fun e w' ⟨N, he, _, _, hb⟩ => ⟨_, N, he, hb⟩
 · exact (Any.strconv_Atoi_range_var Tryz.laysC172 s hlim hh tq q W h2).mono fun e w' ⟨N, he, _, _, hb⟩ => ⟨_, N, he, hb⟩
theorem atoi_ok (s : ByteArray) (hlim : s.size ≤ 281474976710656) (v : Int) (h : Lib.atoiAll s.data.toList = .ok v) (w : World) :
  Calls Tryz.prog 141 #[.string s] w fun e w' => e = .returned (.tuple #[.int .i64 v, .nilIface]) ∧ Below w.heap.size w w' :=
 (Tryz.strconv_Atoi_ok s (by omega) v h w).mono fun e w' ⟨he, hw⟩ => ⟨he, by
  rcases hw with rfl | ⟨t, rfl⟩
  · exact Below.refl _ _
  · exact Kit.bytesWorld_below _ _ _⟩
theorem parse_any (s : ByteArray) (hlim : s.size ≤ 281474976710656) (w : World) (hg : Gd w) :
  Calls Tryz.prog 117 #[.string s] w fun e w' => e = .returned (.tuple #[.int .i64 (pV s.data.toList), .bool (pB s.data.toList)]) ∧ Below w.heap.size w w' := by
 by_cases hv : ∃ v, Lib.atoiAll s.data.toList = .ok v
 · obtain ⟨v, h⟩ := hv
   obtain ⟨v0, v1⟩ := Lib.atoiAll_bounds h
   have C := Lib.hid (atoi_ok s hlim v h)
   have T := Lib.hid (fun W (hW : Gd W) => text_any v v0 v1 W hW)
   have G := Lib.hid hg
   by_cases he : Lib.itoa v = s.data.toList
   · have H := Lib.hid (parse_ok h he)
     have hq : (Lib.itoa v == s.toList) = true := by rw [ByteArray.toList_eq, he]; simp
     clear h hg he
     go_enter Tryz.func117, Tryz.ntmps117
     go_wp2_with fail
     refine (C.out _).mono ?_
     rintro e w1 ⟨rfl, hb⟩
     go_wp2_with fail
     refine (T.out _ (G.out.keep hb)).mono ?_
     rintro e w2 ⟨rfl, hb2⟩
     go_wp2
     go_ret2
     exact ⟨ret_ib H.out.1.symm H.out.2.symm, hb.trans (hb2.mono hb.size)⟩
   · have H := Lib.hid (parse_un h he)
     have hq : (Lib.itoa v == s.toList) = false := by rw [ByteArray.toList_eq]; simp [he]
     clear h hg he
     go_enter Tryz.func117, Tryz.ntmps117
     go_wp2_with fail
     refine (C.out _).mono ?_
     rintro e w1 ⟨rfl, hb⟩
     go_wp2_with fail
     refine (T.out _ (G.out.keep hb)).mono ?_
     rintro e w2 ⟨rfl, hb2⟩
     go_wp2
     go_ret2
     exact ⟨ret_ib H.out.1.symm H.out.2.symm, hb.trans (hb2.mono hb.size)⟩
 · have hn : ∀ v, Lib.atoiAll s.data.toList ≠ .ok v := fun v h => hv ⟨v, h⟩
   have C := Lib.hid (fun W hW => atoi_fails s hlim hn W hW)
   have H := Lib.hid (parse_bad hn)
   have G := Lib.hid hg
   clear hn hg hv
   go_enter Tryz.func117, Tryz.ntmps117
   go_wp2_with fail
   refine (show Calls _ _ _ _ _ from C.out _ G.out).mono ?_
   rintro e w1 ⟨x, N, rfl, hb⟩
   go_wp2
   go_ret2
   exact ⟨ret_ib H.out.1.symm H.out.2.symm, hb⟩
end Go.Proofs.YtpoinibckmbfcaaGreatDoor.NumL
namespace Go.Proofs.YtpoinibckmbfcaaGreatDoor.Kit
open Go
set_option linter.unusedVariables false
section
variable {P : Program} {ops : Array Oper} {md : Region.Mode} {C : World → Prop}
def headAny (P : Program) (md : Region.Mode) (ops : Array Oper) (C : World → Prop) (n : Nat) (L : Array Bool → Act → Prop) : Nat → Array Bool → Act → Prop
  | 0, listed, a => L listed a
  | f + 1, listed, a => Region.ready md ops listed ≠ [] ∧ ∀ i ∈ Region.ready md ops listed, i < n ∧ qOp P ops C i (headAny P md ops C n L f (listed.setIfInBounds i true)) a
theorem wpAny_of_headAny {n g : Nat} {L : Array Bool → Act → Prop} {Q' : Exit → Act → World → Prop} (hL : ∀ listed a w, C w → L listed a → wpAny P md ops Q' g listed a w) :
  ∀ (f : Nat) (listed : Array Bool) (a : Act) (w : World), C w → headAny P md ops C n L f listed a → wpAny P md ops Q' (f + g) listed a w
 | 0, listed, a, w, hw, h => by rw [Nat.zero_add]; exact hL _ _ _ hw h
 | f + 1, listed, a, w, hw, h => by
   rw [show f + 1 + g = (f + g) + 1 by omega]
   exact ⟨fun h0 => absurd h0 h.1, fun i hi => wpOp_of_qOp hw (fun a' w' hw' h' => wpAny_of_headAny hL f _ a' w' hw' h') (h.2 i hi).2⟩
theorem headAny_first {n i : Nat} {oi : Oper} {v : Value} {L : Array Bool → Act → Prop} (hi : ops[i]? = some oi) (hsel : ∀ (j : Nat) (o : Oper) cs b, ops[j]? = some o → o.op ≠ .select cs b)
    (hs : Region.sinkB md ops n = true) (hc : Region.chainB md ops n = true) (hn : n < ops.size) (hin : i < n)
    (hdone : ∀ listed a, L listed a → ∀ j ∈ Region.ready md ops listed, n ≤ j) :
    ∀ (f : Nat) (listed : Array Bool) (a : Act), HeadInv md ops n listed →
      (∀ j oj, ops[j]? = some oj → j ≠ i → listed.getD j true = false → (∀ e ∈ oj.after, Region.binds md e = true → e.on ≠ i) → oi.apart ops oj = true) →
      i ∈ Region.ready md ops listed → YieldsIn P ops C oi v a →
      headAny P md ops C n L f (listed.setIfInBounds i true) (a.put oi.dst v) → headAny P md ops C n L (f + 1) listed a := by
  intro f
  induction f with
  | zero =>
    intro listed a inv _ hr hy H
    have hun := (mem_ready.1 hr).1
    refine ⟨fun h0 => by rw [h0] at hr; exact absurd hr (by simp), fun j hj => ?_⟩
    have hjn : j < n := (Nat.lt_or_ge j n).resolve_right fun hge => tail_waits hs hc hn inv _ i rfl hin hun j hge hj
    refine ⟨hjn, ?_⟩
    by_cases e : j = i
    · subst e; exact hy.qOp hi H
    · exact absurd (hdone _ _ H j (ready_mono hj e)) (by omega)
  | succ f ih =>
    intro listed a inv hfree hr hy H
    have hun := (mem_ready.1 hr).1
    refine ⟨fun h0 => by rw [h0] at hr; exact absurd hr (by simp), fun j hj => ?_⟩
    have hjn : j < n := (Nat.lt_or_ge j n).resolve_right fun hge => tail_waits hs hc hn inv _ i rfl hin hun j hge hj
    refine ⟨hjn, ?_⟩
    by_cases e : j = i
    · subst e; exact hy.qOp hi H
    obtain ⟨hjun, oj, hoj, hall⟩ := mem_ready.1 hj
    have hnot : ∀ x ∈ oj.after, Region.binds md x = true → x.on ≠ i := by
     intro x hx hb hon
     have := hall x hx hb
     rw [hon, getD_both hun] at this
     exact absurd this (by simp)
    have step := qOp_put hoj (hfree j oj hoj e hjun hnot) (fun cs b => hsel i oi cs b hi) (fun cs b => hsel j oj cs b hoj) hy (H.2 j (ready_mono hj e)).2
    refine qOp_mono (fun a' h3 => ?_) step
    refine ih (listed.setIfInBounds j true) a' (inv.set hj hjn) (fun k ok hk hki hku hno => ?_) (ready_mono hr fun x => e x.symm) h3.1 ?_
    · refine hfree k ok hk hki ?_ hno
      by_cases hjk : j = k
      · subst hjk; exact hjun
      · rwa [getD_set_ne true hjk] at hku
    · rw [Array.setIfInBounds_comm _ _ e]
      exact h3.2
theorem headAny_lex {n g : Nat} {Lq : Act → Prop} (hsel : Region.noSelect ops = true) (hs : Region.sinkB md ops n = true) (hc : Region.chainB md ops n = true) (hn : n < ops.size) :
  ∀ (l : List Oper) (k : Nat) (listed : Array Bool) (a : Act), (∀ j, j < l.length → l[j]? = ops[k + j]?) → k + l.length = n → HeadInv md ops n listed →
  Region.lexHead md ops g l.length k listed = true → wpQuiet P ops C Lq l a →
  headAny P md ops C n (fun listed' a' => Region.seqB md ops g n listed' = true ∧ Lq a') l.length listed a
 | [], k, listed, a, _, hk, _, hB, h => by
   obtain rfl : k = n := by simpa using hk
   exact ⟨by simpa [Region.lexHead] using hB, h⟩
 | o :: l, k, listed, a, hl, hk, inv, hB, h => by
   have h0 : ops[k]? = some o := by simpa using (hl 0 (by simp)).symm
   simp only [List.length_cons, Region.lexHead, Bool.and_eq_true] at hB
   obtain ⟨⟨hr, hf⟩, hB'⟩ := hB
   simp only [List.length_cons] at hk
   have hr' : k ∈ Region.ready md ops listed := by simpa using hr
   obtain ⟨v, hy, hK⟩ := yieldsIn_of_qOp h0 (show qOp P ops C k (wpQuiet P ops C Lq l) a by unfold qOp; simp only [h0]; exact h)
   refine headAny_first h0 (Region.noSelect_spec hsel) hs hc hn (by omega) (fun _ _ hL => seqB_ready hL.1) l.length listed a inv (Region.free_spec h0 hf) hr' hy ?_
   refine headAny_lex hsel hs hc hn l (k + 1) _ _ (fun j hj => ?_) (by omega) (inv.set hr' (by omega)) hB' hK
   have := hl (j + 1) (by simp; omega)
   simpa [Nat.add_assoc, Nat.add_comm 1 j] using this
theorem wp_region_quiet_tail {id : Nat} {Q : Exit → Act → World → Prop} {a : Act} {w : World} {l : List Oper} (n : Nat) (hm : P.follows .mixedOrders = true) (hB : Region.lexTailB .any l.toArray n = true) (hC : C { w with drawn := w.drawn + 1 })
    (h : wpQuiet P l.toArray C (fun a' => ∀ w', C w' → wpList P l.toArray Q (l.drop n) a' w') (l.take n) a) : (Code.region id l.toArray true).wp P Q a w := by
  simp only [Region.lexTailB, Bool.and_eq_true, decide_eq_true_eq] at hB
  obtain ⟨⟨⟨⟨hsel, hn⟩, hs⟩, hc⟩, hlex⟩ := hB
  have hn' : n < l.length := by simpa using hn
  have htl : (l.take n).length = n := by rw [List.length_take]; omega
  have hdl : (l.drop n).length = l.toArray.size - n := by simp
  have inv0 : HeadInv .any l.toArray n (Array.replicate l.toArray.size false) :=
   ⟨by simp, fun j oj _ hl => (by rw [getD_replicate_false] at hl; cases hl), fun t _ ht => getD_in (by simpa using ht) (getD_replicate_false _ _)⟩
  have H := headAny_lex (md := .any) (g := l.toArray.size - n) hsel hs hc hn (l.take n) 0 _ a (fun j hj => by rw [htl] at hj; simp [hj]) (by simpa using htl) inv0 (by rw [htl]; exact hlex) h
  refine wp_region_any hm ?_
  have key := wpAny_of_headAny (Q' := Q) (g := l.toArray.size - n) (fun listed a' w' hw' hL => by
   have := wpAny_of_seq (md := .any) (Q' := Q) (l.drop n) n listed a' w' (fun j => by simp [List.getElem?_drop]) (by rw [hdl]; exact hL.1) (hL.2 w' hw')
   rwa [hdl] at this) _ _ _ _ hC H
  rw [htl, show n + (l.toArray.size - n) = l.toArray.size by omega] at key
  exact key
end
theorem wp_region_quiet_tail_lit {P : Program} {id : Nat} {Q : Exit → Act → World → Prop} {a : Act} {w : World} {l : List Oper} (n : Nat) (hm : P.follows .mixedOrders = true) (hB : Region.lexTailB .any l.toArray n = true)
    (h : wpQuiet P l.toArray (fun w' => ∃ q, w' = w.drewN q) (fun a' => ∀ w', (∃ q, w' = w.drewN q) → wpList P l.toArray Q (l.drop n) a' w') (l.take n) a) : (Code.region id l.toArray true).wp P Q a w :=
  wp_region_quiet_tail (C := fun w' => ∃ q, w' = w.drewN q) n hm hB ⟨1, rfl⟩ h
end Go.Proofs.YtpoinibckmbfcaaGreatDoor.Kit
