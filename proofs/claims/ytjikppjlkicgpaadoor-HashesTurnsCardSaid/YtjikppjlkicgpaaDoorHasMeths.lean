/-
  The landed code of layer 13: a pair is put; what is done with a hash, method by method; its value.
-/
import Derived.Test.YtjikppjlkicgpaaDoorHasIns
import Derived.Test.YtjikppjlkicgpaaDoorHasFind
import Derived.Test.YtjikppjlkicgpaaDoorHasPure
import Derived.Test.YtjikppjlkicgpaaDoorDoRows
import Derived.Test.YtjikppjlkicgpaaDoorLawKit
import Derived.Test.YtjikppjlkicgpaaDoorReplyJoin
import Derived.Test.YtjikppjlkicgpaaDoorReplyLine
import Derived.Test.YtjikppjlkicgpaaDoorNumParse
import Derived.Test.YtjikppjlkicgpaaDoorNumAdd
import Derived.Test.YtjikppjlkicgpaaDoorQuietTail
import Derived.Test.YtjikppjlkicgpaaDoorStrRowz
import Derived.Test.YtjikppjlkicgpaaDoorRefTabs
import Derived.Lib.QuietBelow
import Derived.BigQuiet
import Derived.Deep.QuietTactic
import Derived.Deep.RegionWith
import Derived.Deep.RegionLaw
namespace Go.Proofs.YtjikppjlkicgpaaDoor.HasM
open Go.RowKit Kit StrT RowG BOrd ValT StoT ReplyT ReplyMath Low DoT HasT ValM BytesIn NumL NumW
set_option linter.unusedVariables false
set_option maxRecDepth 100000

theorem bytes_self (S : ByteArray) : (⟨S.data.toList.toArray⟩ : ByteArray) = S := by
  cases S
  simp
theorem ownB_ownR {α : Type} {E : Enc α} {w : World} {base g n cap : Nat} {L : List α} (h : OwnB E w g n cap L) (hg : base ≤ g) : OwnR E base w (.slice (some ⟨g, 0, none⟩) n cap) L := by
  obtain ⟨h1, h2, cur, h3, h4, h5, h6⟩ := h
  subst h1
  exact ⟨by rw [flat_len], Or.inr ⟨g, cap, cur, rfl, hg, h3, h2, by unfold maxLen; omega, h5, h6⟩⟩
theorem ownR_blk {α : Type} {E : Enc α} {w : World} {base n c : Nat} {q : Option Addr} {L : List α} (h : OwnR E base w (.slice q n c) L) (hn : L.length = n) (h0 : 0 < n) : ∃ b, q = some ⟨b, 0, none⟩ ∧ base ≤ b ∧ OwnB E w b n c L := by
  obtain ⟨q', c', e, h1, h2, h3, h4⟩ := OwnR.rowO h
  injection e with e1 e2 e3
  subst e1 e3
  rw [hn] at h4
  rcases h4 with rfl | ⟨b, e, hb, ho⟩
  · simp at hn
    omega
  · exact ⟨b, e, hb, ho⟩
theorem pair_hash : (40 : TypeId) ≠ 56 := by decide
/-- The pairs lie in another block than the hash. -/
theorem apart {W : World} {base g : Nat} {v : Value} {L : List Pr} {x : Array Value} (ho : OwnR prE base W v L) (hg : W.heap[g]? = some (.cells x 56 (0, 0))) : ∀ k, v.ownBlock = some k → k ≠ g := by
  intro k hk e
  rcases ho.2 with ⟨rfl, -⟩ | ⟨b, cap, cur, rfl, -, h2, -⟩
  · cases hk
  · injection hk with hk
    subst hk e
    rw [h2] at hg
    injection hg with hg
    injection hg with _ h3
    exact pair_hash h3
section
variable {w0 w : World} {g n c : Nat} {q : Option Addr} {H : List Pr}
/-- The hash's block is written. -/
theorem HB.turn {W : World} {q' : Option Addr} {n' c' : Nat} {H' : List Pr} (h : HB w0 w g q n c H) (hW : Below w0.heap.size w0 W) (hg : W.heap[g]? = w.heap[g]?) (ho : OwnR prE w0.heap.size W (.slice q' n' c') H') (hn : H'.length = n') (hu : Up H') (hm : n' ≤ 1048576) :
    HB w0 (W.setCell ⟨g, 0, none⟩ (.slice q' n' c')) g q' n' c' H' := by
  have hp := hg.trans h.hp
  refine ⟨hW.setCell (p := ⟨g, 0, none⟩) h.ge _, h.ge, ?_, ?_, hn, hu, hm⟩
  · have := heap_setCell_same _ _ 0 _ _ (.slice q' n' c') hp
    simpa using this
  · refine ⟨ho.1, ?_⟩
    rcases ho.2 with h1 | ⟨b, cap, cur, e, hb, h2, h3⟩
    · exact Or.inl h1
    · exact Or.inr ⟨b, cap, cur, e, hb, by rw [heap_setCell_other _ _ _ _ (show b ≠ g from apart ho hp b (by rw [e]; rfl))]; exact h2, h3⟩
theorem HB.drewN (h : HB w0 w g q n c H) (k : Nat) : HB w0 (w.drewN k) g q n c H := ⟨h.bl.trans ⟨rfl, rfl, rfl, Nat.le_refl _, fun _ _ => rfl⟩, h.ge, h.hp, h.ow, h.ln, h.up, h.lm⟩
end
theorem ins_put (w0 w : World) (g : Nat) (q : Option Addr) (n : Nat) (H : List Pr) (N V : ByteArray) (h : HB w0 w g q n n H) (p : Nat) (hp : p ≤ n) :
    Calls Tryd.prog 54 #[.slice q n n, .int .i64 (p : Int), .slice (some ⟨w.heap.size, 0, none⟩) 1 1] (w.alloc (.cells #[.string N, .string V] 40)) fun e w' => ∃ q' c', e = .returned (.slice q' (n + 1) c') ∧ OwnR prE w0.heap.size w' (.slice q' (n + 1) c') (H.take p ++ ⟨N.data.toList, V.data.toList⟩ :: H.drop p) ∧ Below w0.heap.size w0 w' ∧ w'.heap[g]? = w.heap[g]? := by
  have h2 := h.keep (ReplyT.below1 w (.cells #[.string N, .string V] 40))
  refine (insert_any w0 _ q n p H ⟨N.data.toList, V.data.toList⟩ w.heap.size h2.bl h2.ow h.ln hp h.lm (rec_new prE w _ _ _ (by
    show _ = [Value.string ⟨N.data.toList.toArray⟩, Value.string ⟨V.data.toList.toArray⟩].toArray
    rw [bytes_self, bytes_self]) rfl) (by simp)).mono ?_
  rintro e w' ⟨q', c', rfl, ho, hb', hk⟩
  exact ⟨q', c', rfl, ho, hb', by rw [hk g h2.lt (fun e => apart h2.ow h2.hp g e.symm rfl), h2.hp, h.hp]⟩
def PutP (w0 : World) (g : Nat) (t : Bool) (H : List Pr) (e : Ending) (w' : World) : Prop := ∃ q n c, e = .returned (.bool t) ∧ HB w0 w' g q n c H

set_option maxHeartbeats 8000000 in
theorem put_any (w0 w : World) (g : Nat) (q : Option Addr) (n : Nat) (H : List Pr) (N V : ByteArray) (h : HB w0 w g q n n H) (hm : n + 1 ≤ 1048576) :
    Calls Tryd.prog 42 #[.pointer (some ⟨g, 0, none⟩), .string N, .string V] w (PutP w0 g (!hasP H N.data.toList) (setP H N.data.toList V.data.toList)) := by
  have C := Lib.hid (place_any w0 w g q n n H N h)
  have HH := Lib.hid (fun W (hW : Below w.heap.size w W) => h.keep hW)
  have hn := h.ln
  rcases pos_get N.data.toList h.up with ⟨h1, h2, h3, -⟩ | ⟨h1, -, -⟩
  · -- there is one
    have hp : posP H N.data.toList < n := by rw [← hn]; exact h2
    obtain ⟨b, rfl, hb, hO⟩ := ownR_blk h.ow hn (by omega)
    have hbg : b ≠ g := apart h.ow h.hp b rfl
    have HS := Lib.hid (set_there N.data.toList V.data.toList h.up h1)
    have HU := Lib.hid (set_up N.data.toList V.data.toList h.up)
    have HO := Lib.hid (fun W (hW : Below w.heap.size w W) => hO.keep hW)
    have HP := Lib.hid h2
    have HE := Lib.hid (show prE.enc ⟨N.data.toList, V.data.toList⟩ = (prE.enc (H[posP H N.data.toList]'HP.out)).set 1 (.string V) from by
      show [Value.string ⟨N.data.toList.toArray⟩, Value.string ⟨V.data.toList.toArray⟩] = [Value.string ⟨(H[posP H N.data.toList]'h2).name.toArray⟩, .string V]
      rw [h3, bytes_self, bytes_self])
    have HN := Lib.hid hn
    have HBb := Lib.hid hb
    have HBg := Lib.hid hbg
    rw [h1] at C
    rw [h1]
    have HM : Hid (n ≤ 1048576) := Lib.hid h.lm
    have HD := Lib.hid h
    obtain ⟨p, hpe⟩ : ∃ p, p = posP H N.data.toList := ⟨_, rfl⟩
    have HPe := Lib.hid hpe
    rw [← hpe] at C hp
    clear h h1 h2 h3 hn hO hb hbg hpe
    go_enter Tryd.func42, Tryd.ntmps42
    go_wp2_with fail
    with_reducible refine C.out.mono ?_
    rintro e w1 ⟨rfl, hb1⟩
    have HH1 := Lib.hid (HH.out w1 hb1)
    have HO1 := Lib.hid (HO.out w1 hb1)
    have hc := HH1.out.cell
    have p0 : (0 : Int) ≤ (p : Int) := by omega
    have pn : (p : Int) < (n : Int) := by omega
    have c1 : w1.cell? ⟨b, p * 2 + 1, none⟩ = some (.string ⟨(H[posP H N.data.toList]'HP.out).val.toArray⟩) := by
      rw [HPe.out]
      exact OwnB.cell HO1.out (posP H N.data.toList) 1 HP.out (by decide)
    have f1 : w1.frozen? ⟨b, p * 2 + 1, none⟩ = false := OwnB.frz HO1.out _
    generalize (⟨(H[posP H N.data.toList]'HP.out).val.toArray⟩ : ByteArray) = X at c1
    have HF := Lib.hid (show HB w0 (w1.setCell ⟨b, p * 2 + 1, none⟩ (.string V)) g (some ⟨b, 0, none⟩) n n (setP H N.data.toList V.data.toList) from by
      have ho := OwnB.set HO1.out (posP H N.data.toList) 1 ⟨N.data.toList, V.data.toList⟩ (.string V) HP.out (by decide) HE.out
      rw [← HPe.out] at ho
      have hg := HD.out.ge
      have hbb := HBb.out
      rw [HS.out, ← HPe.out]
      refine ⟨HH1.out.bl.setCell (p := ⟨b, p * 2 + 1, none⟩) (show w0.heap.size ≤ b by omega) _, hg, ?_, ownB_ownR ho HBb.out, by rw [List.length_set]; exact HN.out, by rw [HPe.out, ← HS.out]; exact HU.out, HM.out⟩
      rw [heap_setCell_other _ _ _ _ (show g ≠ b from fun e => HBg.out e.symm)]
      exact HH1.out.hp)
    clear C HH HO hb1 HS HU HE HH1 HO1 HPe
    go_wp2_with fail
    go_ret
    exact ⟨_, _, _, rfl, HF.out⟩
  · -- a new one
    have HS := Lib.hid (set_new N.data.toList V.data.toList h.up h1)
    have HSl := Lib.hid (show (setP H N.data.toList V.data.toList).length = n + 1 by rw [set_new_len _ _ h.up h1, hn])
    have HU := Lib.hid (set_up N.data.toList V.data.toList h.up)
    have hp : posP H N.data.toList ≤ n := by rw [← hn]; exact pos_le _ _
    have HN := Lib.hid hn
    have HM : Hid (n + 1 ≤ 1048576) := Lib.hid hm
    have HD := Lib.hid h
    have CI := Lib.hid (fun W (hW : HB w0 W g q n n H) => ins_put w0 W g q n H N V hW _ hp)
    rw [h1] at C
    rw [h1]
    obtain ⟨p, hpe⟩ : ∃ p, p = posP H N.data.toList := ⟨_, rfl⟩
    rw [← hpe] at C CI HS hp
    clear h h1 hn hpe hm
    go_enter Tryd.func42, Tryd.ntmps42
    go_wp2_with fail
    with_reducible refine C.out.mono ?_
    rintro e w1 ⟨rfl, hb1⟩
    have HH1 := Lib.hid (HH.out w1 hb1)
    have hc := HH1.out.cell
    have hc2 : (w1.alloc (.cells #[.string N, .string V] 40)).cell? ⟨g, 0, none⟩ = some (.slice q n n) := ((ReplyT.below1 w1 _).cell (p := ⟨g, 0, none⟩) HH1.out.lt).trans hc
    have CI1 := Lib.hid (CI.out w1 HH1.out)
    clear C HH CI hb1
    go_wp2_with fail
    with_reducible refine CI1.out.mono ?_
    rintro e w2 ⟨q', c', rfl, ho, hb, hg⟩
    have HF := Lib.hid (HH1.out.turn hb hg ho (by rw [← HS.out]; exact HSl.out) (by rw [← HS.out]; exact HU.out) HM.out)
    have hg2 := hg.trans HH1.out.hp
    have hc3 : w2.cell? ⟨g, 0, none⟩ = some (.slice q n n) := by
      rw [cell_of_row _ _ _ _ 56 _ hg2]
      rfl
    have f3 : w2.frozen? ⟨g, 0, none⟩ = false := frozen_of_row _ _ _ _ 56 hg2
    rw [← HS.out] at HF
    clear ho hb hg hg2 HH1 CI1 HS HSl HU
    go_wp2_with fail
    go_ret
    exact ⟨_, _, _, rfl, HF.out⟩

end Go.Proofs.YtjikppjlkicgpaaDoor.HasM
namespace Go.Proofs.YtjikppjlkicgpaaDoor.HasM
open Go.RowKit Kit StrT RowG BOrd ValT StoT ReplyT ReplyMath Low DoT HasT ValM BytesIn NumL NumW ReplyM LawK
set_option linter.unusedVariables false
set_option maxRecDepth 100000

/-- The words of a request, from the third on. -/
structure WS (w0 : World) (qw : Option Addr) (nw cw : Nat) (A : List (List UInt8)) : Prop where
  wn : A.length = nw
  wc : nw ≤ cw
  ws : StrT.Ss w0 qw A
def HRes (w0 : World) (g : Nat) (x : List Pr × List UInt8) (e : Ending) (w' : World) : Prop := ∃ vr q n c, e = .returned vr ∧ HB w0 w' g q n c x.1 ∧ Ans (g + 1) w' vr x.2
theorem hres_keep {w0 w w' : World} {g n c : Nat} {q : Option Addr} {H : List Pr} {l : List UInt8} {e : Ending} (h : HB w0 w g q n c H) (hG : Gives l w e w') : HRes w0 g (H, l) e w' := by
  obtain ⟨v, rfl, hA, hb⟩ := hG
  exact ⟨v, q, n, c, rfl, h.keep hb, hA.base h.lt⟩
theorem hres_to {w0 : World} {g : Nat} {x y : List Pr × List UInt8} {e : Ending} {w' : World} (h : HRes w0 g x e w') (hx : x = y) : HRes w0 g y e w' := hx ▸ h
theorem word_at {w0 w : World} {qw : Option Addr} {nw cw : Nat} {A : List (List UInt8)} (h : WS w0 qw nw cw A) (hb : Below w0.heap.size w0 w) (j : Nat) (hj : j < nw) : ∃ b off, qw = some ⟨b, off, none⟩ ∧ b < w0.heap.size ∧ w.cell? ⟨b, off + j, none⟩ = some (.string ⟨(wd A j).toArray⟩) := by
  obtain ⟨b, off, e, hlt, hc⟩ := ss_word h.ws j (by rw [h.wn]; exact hj)
  exact ⟨b, off, e, hlt, (hb.cell (p := ⟨b, off + j, none⟩) hlt).trans hc⟩

set_option maxHeartbeats 4000000 in
theorem m_length (w0 w : World) (g : Nat) (q : Option Addr) (n : Nat) (H : List Pr) (qw : Option Addr) (nw cw : Nat) (A : List (List UInt8)) (h : HB w0 w g q n n H) (hW : WS w0 qw nw cw A) (hg : Gd w0) (ht : Tame 3 H A) :
    Calls Tryd.prog 36 #[.pointer (some ⟨g, 0, none⟩), .slice qw nw cw] w (HRes w0 g (rowD 3 H A)) := by
  have hn := h.ln
  have hm := h.lm
  have C := Lib.hid (int_any (n : Int) w (by omega) (by omega) (hg.keep h.bl).gt)
  have HH := Lib.hid h
  have HR := Lib.hid (show rowD 3 H A = (H, int (n : Int)) by rw [← hn]; rfl)
  have hc := h.cell
  clear h hn hW hg ht
  go_enter Tryd.func36, Tryd.ntmps36
  go_wp2_with fail
  with_reducible refine C.out.mono ?_
  intro e w1 hG
  have HE := Lib.hid (hres_keep HH.out hG)
  obtain ⟨v, rfl, -, -⟩ := hG
  go_wp2_with fail
  go_ret
  exact hres_to HE.out HR.out.symm

set_option maxHeartbeats 4000000 in
theorem m_set (w0 w : World) (g : Nat) (q : Option Addr) (n : Nat) (H : List Pr) (qw : Option Addr) (nw cw : Nat) (A : List (List UInt8)) (h : HB w0 w g q n n H) (hW : WS w0 qw nw cw A) (hg : Gd w0) (ht : Tame 0 H A) :
    Calls Tryd.prog 33 #[.pointer (some ⟨g, 0, none⟩), .slice qw nw cw] w (HRes w0 g (rowD 0 H A)) := by
  have hn := h.ln
  obtain ⟨-, h2, h3⟩ := ht
  have h2' : 2 ≤ nw := by rw [← hW.wn]; exact h2
  obtain ⟨b, off, rfl, hb, c0⟩ := word_at hW h.bl 0 (by omega)
  obtain ⟨b', off', e, -, c1⟩ := word_at hW h.bl 1 (by omega)
  injection e with e
  injection e with e1 e2
  subst e1 e2
  rw [Nat.add_zero] at c0
  obtain ⟨N, hN, hN2⟩ := str_of (wd A 0)
  obtain ⟨V, hV, hV2⟩ := str_of (wd A 1)
  rw [hN2] at c0
  rw [hV2] at c1
  have CP := Lib.hid (fun k => put_any w0 (w.drewN k) g q n H N V (h.drewN k) (by rw [← hn]; exact h3))
  have CI := Lib.hid (fun (z : Int) W (hz : 0 ≤ z ∧ z ≤ 1) (hW : Below w0.heap.size w0 W) => int_any z W (by omega) (by omega) (hg.keep hW).gt)
  have HR := Lib.hid (show rowD 0 H A = (setP H N.data.toList V.data.toList, int (newN (getP H N.data.toList))) by rw [hN, hV]; rfl)
  have n0 : 0 < nw := by omega
  have n1 : 1 < nw := by omega
  have n00 : (0 : Int) < (nw : Int) := by omega
  have n11 : (1 : Int) < (nw : Int) := by omega
  have HT : Hid ((hasP H N.data.toList = true ∧ newN (getP H N.data.toList) = 0) ∨ (hasP H N.data.toList = false ∧ newN (getP H N.data.toList) = 1)) := Lib.hid (by
    unfold hasP
    cases getP H N.data.toList with
    | none => exact Or.inr ⟨rfl, rfl⟩
    | some u => exact Or.inl ⟨rfl, rfl⟩)
  clear hN hN2 hV hV2 hn hb h2 h3 h2' hW hg h
  go_enter Tryd.func33, Tryd.ntmps33
  go_wp2_with fail
  refine wp_region_quiet_tail_lit 7 (by kernel_rfl) (by kernel_rfl) ?_
  simp only [List.take_succ_cons, List.take_zero, List.drop_succ_cons, List.drop_zero]
  repeat (go_big_quiet_step (fail))
  refine wpQuiet_nil ?_
  rintro _ ⟨nq, rfl⟩
  rcases HT.out with ⟨t0, t1⟩ | ⟨t0, t1⟩
  all_goals
    rw [t0] at CP
    rw [t1] at HR
    clear t0 t1
    go_wp2_with fail
    with_reducible refine (CP.out nq).mono ?_
    rintro e w1 ⟨q1, k1, c1, rfl, hB1⟩
    have HB1 := Lib.hid hB1
    have CI0 := Lib.hid (CI.out 0 w1 ⟨by decide, by decide⟩ HB1.out.bl)
    have CI1 := Lib.hid (CI.out 1 w1 ⟨by decide, by decide⟩ HB1.out.bl)
    clear CP hB1
    go_wp2_with fail
    first
      | with_reducible refine CI0.out.mono ?_
      | with_reducible refine CI1.out.mono ?_
    intro e w2 hG
    have HE := Lib.hid (hres_keep HB1.out hG)
    obtain ⟨v, rfl, -, -⟩ := hG
    go_wp2_with fail
    go_ret
    exact hres_to HE.out HR.out.symm

set_option maxHeartbeats 4000000 in
theorem m_get (w0 w : World) (g : Nat) (q : Option Addr) (n : Nat) (H : List Pr) (qw : Option Addr) (nw cw : Nat) (A : List (List UInt8)) (h : HB w0 w g q n n H) (hW : WS w0 qw nw cw A) (hg : Gd w0) (ht : Tame 1 H A) :
    Calls Tryd.prog 34 #[.pointer (some ⟨g, 0, none⟩), .slice qw nw cw] w (HRes w0 g (rowD 1 H A)) := by
  have hn := h.ln
  obtain ⟨-, h2, h3⟩ := ht
  have h2' : 1 ≤ nw := by rw [← hW.wn]; exact h2
  obtain ⟨b, off, rfl, hb, c0⟩ := word_at hW h.bl 0 (by omega)
  rw [Nat.add_zero] at c0
  obtain ⟨N, hN, hN2⟩ := str_of (wd A 0)
  rw [hN2] at c0
  have CP := Lib.hid (place_any w0 w g q n n H N h)
  have HH := Lib.hid (fun W (hb : Below w.heap.size w W) => h.keep hb)
  have HG := Lib.hid (fun W (hW : Below w0.heap.size w0 W) => (hg.keep hW).gt)
  have HR := Lib.hid (show rowD 1 H A = (H, gotR (getP H N.data.toList)) by rw [hN]; rfl)
  have n0 : 0 < nw := by omega
  have n00 : (0 : Int) < (nw : Int) := by omega
  rcases pos_get N.data.toList h.up with ⟨g1, g2, g3, g4⟩ | ⟨g1, g2, -⟩
  · have hp : posP H N.data.toList < n := by rw [← hn]; exact g2
    obtain ⟨bh, offh, rfl, hbh, u0, u1⟩ := pair_cells h.rs (posP H N.data.toList) g2
    obtain ⟨V, hV, hV2⟩ := str_of (H[posP H N.data.toList]'g2).val
    rw [hV2] at u1
    rw [g4, ← hV] at HR
    rw [g1] at CP
    have HU := Lib.hid (fun W (hb : Below w.heap.size w W) => (hb.cell (p := ⟨bh, offh + posP H N.data.toList * 2 + 1, none⟩) hbh).trans u1)
    have CB := Lib.hid (fun W (hW : Below w0.heap.size w0 W) => bulk_any V W (by have := h3 _ (List.getElem_mem g2); rw [← hV, str_len] at this; exact this) (hg.keep hW).gt)
    generalize posP H N.data.toList = p at CP HU hp
    clear hN hN2 hn hb h2 h3 h2' hW hg h hV hV2 u0 u1 g4 g3 g2 g1 hbh
    go_enter Tryd.func34, Tryd.ntmps34
    go_wp2_with fail
    with_reducible refine CP.out.mono ?_
    rintro e w1 ⟨rfl, hb1⟩
    have HH1 := Lib.hid (HH.out w1 hb1)
    have hc := HH1.out.cell
    have hu := HU.out w1 hb1
    have p0 : (0 : Int) ≤ (p : Int) := by omega
    have pn : (p : Int) < (n : Int) := by omega
    have CB1 := Lib.hid (CB.out w1 HH1.out.bl)
    clear CP hb1 HH HU CB
    go_wp2_with fail
    with_reducible refine CB1.out.mono ?_
    intro e w2 hG
    have HE := Lib.hid (hres_keep HH1.out hG)
    obtain ⟨v, rfl, -, -⟩ := hG
    go_wp2_with fail
    go_ret
    exact hres_to HE.out HR.out.symm
  · rw [g2] at HR
    rw [g1] at CP
    have CB := Lib.hid (fun W (hW : Below w0.heap.size w0 W) => null_any W (hg.keep hW).gt)
    generalize posP H N.data.toList = p at CP
    clear hN hN2 hn hb h2 h3 h2' hW hg h g2 g1
    go_enter Tryd.func34, Tryd.ntmps34
    go_wp2_with fail
    with_reducible refine CP.out.mono ?_
    rintro e w1 ⟨rfl, hb1⟩
    have HH1 := Lib.hid (HH.out w1 hb1)
    have CB1 := Lib.hid (CB.out w1 HH1.out.bl)
    clear CP hb1 HH CB
    go_wp2_with fail
    with_reducible refine CB1.out.mono ?_
    intro e w2 hG
    have HE := Lib.hid (hres_keep HH1.out hG)
    obtain ⟨v, rfl, -, -⟩ := hG
    go_wp2_with fail
    go_ret
    exact hres_to HE.out HR.out.symm

end Go.Proofs.YtjikppjlkicgpaaDoor.HasM
namespace Go.Proofs.YtjikppjlkicgpaaDoor.HasM
open Go.RowKit Kit StrT RowG BOrd ValT StoT ReplyT ReplyMath Low DoT HasT ValM BytesIn NumL NumW ReplyM LawK
open Go.Lib (itoa)
set_option linter.unusedVariables false
set_option maxRecDepth 100000

/-- What a name's number is. -/
def numP (H : List Pr) (N : List UInt8) : Int := pV ((getP H N).getD [48])
def numB (H : List Pr) (N : List UInt8) : Bool := pB ((getP H N).getD [48])
set_option maxHeartbeats 4000000 in
theorem number_any (w0 w : World) (g : Nat) (q : Option Addr) (n c : Nat) (H : List Pr) (N : ByteArray) (h : HB w0 w g q n c H) (hg : Gd w0) (hz : ∀ x ∈ H, x.val.length ≤ 281474976710656) :
    Calls Tryd.prog 50 #[.pointer (some ⟨g, 0, none⟩), .string N] w fun e w' => e = .returned (.tuple #[.int .i64 (numP H N.data.toList), .bool (numB H N.data.toList)]) ∧ Below w.heap.size w w' := by
  have hn := h.ln
  have CP := Lib.hid (place_any w0 w g q n c H N h)
  have HH := Lib.hid (fun W (hb : Below w.heap.size w W) => h.keep hb)
  rcases pos_get N.data.toList h.up with ⟨g1, g2, g3, g4⟩ | ⟨g1, g2, -⟩
  · have hp : posP H N.data.toList < n := by rw [← hn]; exact g2
    obtain ⟨bh, offh, rfl, hbh, u0, u1⟩ := pair_cells h.rs (posP H N.data.toList) g2
    obtain ⟨V, hV, hV2⟩ := str_of (H[posP H N.data.toList]'g2).val
    rw [hV2] at u1
    have HR := Lib.hid (show numP H N.data.toList = pV V.data.toList ∧ numB H N.data.toList = pB V.data.toList by unfold numP numB; rw [g4, hV]; exact ⟨rfl, rfl⟩)
    rw [g1] at CP
    have HU := Lib.hid (fun W (hb : Below w.heap.size w W) => (hb.cell (p := ⟨bh, offh + posP H N.data.toList * 2 + 1, none⟩) hbh).trans u1)
    have CB := Lib.hid (fun W (hW : Below w0.heap.size w0 W) => parse_any V (by have := hz _ (List.getElem_mem g2); rw [← hV, str_len] at this; exact this) W (hg.keep hW))
    rw [HR.out.1, HR.out.2]
    generalize posP H N.data.toList = p at CP HU hp
    generalize pV V.data.toList = z at CB ⊢
    generalize pB V.data.toList = t at CB ⊢
    clear hn hz hg h hV hV2 u0 u1 g4 g3 g2 g1 hbh HR
    go_enter Tryd.func50, Tryd.ntmps50
    go_wp2_with fail
    with_reducible refine CP.out.mono ?_
    rintro e w1 ⟨rfl, hb1⟩
    have HH1 := Lib.hid (HH.out w1 hb1)
    have hc := HH1.out.cell
    have hu := HU.out w1 hb1
    have p0 : (0 : Int) ≤ (p : Int) := by omega
    have pn : (p : Int) < (n : Int) := by omega
    have CB1 := Lib.hid (CB.out w1 HH1.out.bl)
    have HB1 := Lib.hid hb1
    clear CP hb1 HH HU CB
    go_wp2_with fail
    with_reducible refine CB1.out.mono ?_
    rintro e w2 ⟨rfl, hb2⟩
    go_wp2_with fail
    go_ret2
    exact ⟨rfl, HB1.out.trans (hb2.mono HB1.out.size)⟩
  · have HR := Lib.hid (show numP H N.data.toList = 0 ∧ numB H N.data.toList = true by unfold numP numB; rw [g2]; exact ⟨by decide +kernel, by decide +kernel⟩)
    rw [g1] at CP
    rw [HR.out.1, HR.out.2]
    generalize posP H N.data.toList = p at CP
    clear hn hz hg h g2 g1 HR
    go_enter Tryd.func50, Tryd.ntmps50
    go_wp2_with fail
    with_reducible refine CP.out.mono ?_
    rintro e w1 ⟨rfl, hb1⟩
    go_wp2_with fail
    go_ret2
    exact ⟨rfl, hb1⟩
theorem byR_eq (H : List Pr) (N B : List UInt8) : byR H N ((getP H N).getD [48]) B = if pB B = true ∧ numB H N = true then if addB (numP H N) (pV B) = true then (setP H N (itoa (addV (numP H N) (pV B))), int (addV (numP H N) (pV B))) else (H, eOver) else (H, eInt) := rfl
theorem addV_bounds (a b : Int) : -9223372036854775808 ≤ addV a b ∧ addV a b ≤ 9223372036854775807 := by
  unfold addV
  split <;> omega
theorem err_to (s : ByteArray) (l : List UInt8) (hs : s.data.toList = l) (hl : l.length ≤ 1048576) (W : World) (hg : Gt W) : Calls Tryd.prog 26 #[.string s] W (Gives (err l) W) := by
  subst hs
  exact err_any s W (by rw [← str_len]; exact hl) hg

set_option maxHeartbeats 8000000 in
theorem m_incrBy (w0 w : World) (g : Nat) (q : Option Addr) (n : Nat) (H : List Pr) (qw : Option Addr) (nw cw : Nat) (A : List (List UInt8)) (h : HB w0 w g q n n H) (hW : WS w0 qw nw cw A) (hg : Gd w0) (ht : Tame 5 H A) :
    Calls Tryd.prog 38 #[.pointer (some ⟨g, 0, none⟩), .slice qw nw cw] w (HRes w0 g (rowD 5 H A)) := by
  have hn := h.ln
  obtain ⟨-, h2, h3, h4, h5⟩ := ht
  have h2' : 2 ≤ nw := by rw [← hW.wn]; exact h2
  obtain ⟨b, off, rfl, hb, c0⟩ := word_at hW (Below.refl _ _) 0 (by omega)
  obtain ⟨b', off', e, -, c1⟩ := word_at hW (Below.refl _ _) 1 (by omega)
  injection e with e
  injection e with e1 e2
  subst e1 e2
  rw [Nat.add_zero] at c0
  obtain ⟨N, hN, hN2⟩ := str_of (wd A 0)
  obtain ⟨B, hB, hB2⟩ := str_of (wd A 1)
  rw [hN2] at c0
  rw [hB2] at c1
  have HC0 := Lib.hid (fun W (hb2 : Below w0.heap.size w0 W) => (hb2.cell (p := ⟨b, off, none⟩) hb).trans c0)
  have HC1 := Lib.hid (fun W (hb2 : Below w0.heap.size w0 W) => (hb2.cell (p := ⟨b, off + 1, none⟩) hb).trans c1)
  have CA := Lib.hid (fun W (hb2 : Below w0.heap.size w0 W) => parse_any B (by rw [← hB, str_len] at h5; exact h5) W (hg.keep hb2))
  have CN := Lib.hid (fun W (hH : HB w0 W g q n n H) => number_any w0 W g q n n H N hH hg h4)
  have CP := Lib.hid (fun W V (hH : HB w0 W g q n n H) => put_any w0 W g q n H N V hH (by rw [← hn]; exact h3))
  have CI := Lib.hid (fun (z : Int) W (hz : -9223372036854775808 ≤ z ∧ z ≤ 9223372036854775807) (hW : Below w0.heap.size w0 W) => int_any z W hz.1 hz.2 (hg.keep hW).gt)
  have CT := Lib.hid (fun (z : Int) W (hz : -9223372036854775808 ≤ z ∧ z ≤ 9223372036854775807) (hW : Below w0.heap.size w0 W) => text_any z hz.1 hz.2 W (hg.keep hW))
  have CE := Lib.hid (fun W (h : Below w0.heap.size w0 W) (s : ByteArray) (hs : s.data.toList = mInt) => (show Calls Tryd.prog 26 #[.string s] W (Gives eInt W) from err_to s mInt hs (by decide) W (hg.keep h).gt))
  have CO := Lib.hid (fun W (h : Below w0.heap.size w0 W) (s : ByteArray) (hs : s.data.toList = mOver) => (show Calls Tryd.prog 26 #[.string s] W (Gives eOver W) from err_to s mOver hs (by decide) W (hg.keep h).gt))
  have hbd := pV_bounds B.data.toList
  have hbn := pV_bounds ((getP H N.data.toList).getD [48])
  have CS := Lib.hid (fun W => add_any (numP H N.data.toList) (pV B.data.toList) W hbn.1 hbn.2 hbd.1 hbd.2)
  have HR0 := Lib.hid (show rowD 5 H A = byR H N.data.toList ((getP H N.data.toList).getD [48]) B.data.toList by rw [hN, hB]; rfl)
  have HRe := Lib.hid (fun (t : ¬ (pB B.data.toList = true ∧ numB H N.data.toList = true)) => (show rowD 5 H A = (H, eInt) by rw [HR0.out, byR_eq, if_neg t]))
  have HRo := Lib.hid (fun (t : pB B.data.toList = true ∧ numB H N.data.toList = true) (t2 : addB (numP H N.data.toList) (pV B.data.toList) = false) => (show rowD 5 H A = (H, eOver) by rw [HR0.out, byR_eq, if_pos t, if_neg (by rw [t2]; decide)]))
  have HRs := Lib.hid (fun (t : pB B.data.toList = true ∧ numB H N.data.toList = true) (t2 : addB (numP H N.data.toList) (pV B.data.toList) = true) => (show rowD 5 H A = (setP H N.data.toList (itoa (addV (numP H N.data.toList) (pV B.data.toList))), int (addV (numP H N.data.toList) (pV B.data.toList))) by rw [HR0.out, byR_eq, if_pos t, if_pos t2]))
  have HZ := Lib.hid (addV_bounds (numP H N.data.toList) (pV B.data.toList))
  have HH := Lib.hid h
  have n0 : 0 < nw := by omega
  have n1 : 1 < nw := by omega
  have n00 : (0 : Int) < (nw : Int) := by omega
  have n11 : (1 : Int) < (nw : Int) := by omega
  generalize numP H N.data.toList = x at CN CS HRo HRs HZ
  generalize numB H N.data.toList = tx at CN HRe HRo HRs
  generalize pV B.data.toList = y at CA CS HRo HRs HZ
  generalize pB B.data.toList = ty at CA HRe HRo HRs
  generalize addB x y = ts at CS HRo HRs
  generalize addV x y = z at CS HRs HZ
  clear hN hN2 hB hB2 hn hb h2 h3 h4 h5 h2' hW hg h hbd hbn HR0 c0 c1
  have hc1 := HC1.out w HH.out.bl
  have CA0 := Lib.hid (CA.out w HH.out.bl)
  clear CA
  go_enter Tryd.func38, Tryd.ntmps38
  go_wp2_with fail
  with_reducible refine CA0.out.mono ?_
  rintro e w1 ⟨rfl, hb1⟩
  have HH1 := Lib.hid (HH.out.keep hb1)
  have hc0 := HC0.out w1 HH1.out.bl
  have CN0 := Lib.hid (CN.out w1 HH1.out)
  clear hb1 HH CN CA0 hc1
  go_wp2_with fail
  with_reducible refine CN0.out.mono ?_
  rintro e w2 ⟨rfl, hb2⟩
  have HH2 := Lib.hid (HH1.out.keep hb2)
  have hc2 := HC0.out w2 HH2.out.bl
  have CE0 := Lib.hid (CE.out w2 HH2.out.bl)
  have CO0 := Lib.hid (CO.out w2 HH2.out.bl)
  clear hb2 HH1 CN0 CE CO hc0
  by_cases t : ty = true ∧ tx = true
  · obtain ⟨rfl, rfl⟩ := t
    go_wp2_with fail
    with_reducible refine (CS.out _).mono ?_
    rintro e w3 ⟨rfl, rfl⟩
    cases ts with
    | false =>
      have HR := Lib.hid (HRo.out (by simp) (by simp))
      go_wp2_with fail
      with_reducible refine (CO0.out _ ?_).mono ?_
      · rfl
      intro e w4 hG
      have HE := Lib.hid (hres_keep HH2.out hG)
      obtain ⟨v, rfl, -, -⟩ := hG
      go_wp2_with fail
      go_ret
      exact hres_to HE.out HR.out.symm
    | true =>
      have HR := Lib.hid (HRs.out (by simp) (by simp))
      have CT0 := Lib.hid (CT.out z w2.drew HZ.out HH2.out.bl.drew)
      have CT1 := Lib.hid (CT.out z w2 HZ.out HH2.out.bl)
      have hd2 : w2.drew.cell? ⟨b, off, none⟩ = some (.string N) := hc2
      clear CT
      go_wp2_with fail
      go_region_law (first
        | (go_simp; (with_reducible refine (by first | exact CT0.out | exact CT1.out : Calls _ _ _ _ _).mono ?_); rintro e w3 ⟨rfl, hb3⟩; dsimp only
           have hb3' : Below w2.heap.size w2 w3 := by first | exact hb3 | exact (Below.refl _ _).drew.trans hb3
           have HH3 := Lib.hid (HH2.out.keep hb3')
           have hc3 := HC0.out w3 HH3.out.bl
           have CP3 := Lib.hid (CP.out w3 ⟨(itoa z).toArray⟩ HH3.out)
           clear hb3 hb3')
        | (go_simp; (with_reducible refine CP3.out.mono ?_); rintro e w4 ⟨q4, n4, c4, rfl, hB4⟩; dsimp only
           have HB4 := Lib.hid hB4
           clear hB4))
      all_goals
        have CI4 := Lib.hid (CI.out z w4 HZ.out HB4.out.bl)
        go_wp2_with fail
        with_reducible refine CI4.out.mono ?_
        intro e w5 hG
        have HE := Lib.hid (hres_keep HB4.out hG)
        obtain ⟨v, rfl, -, -⟩ := hG
        go_wp2_with fail
        go_ret
        exact hres_to HE.out HR.out.symm
  · have HR := Lib.hid (HRe.out t)
    have t2 : (ty = false) ∨ (ty = true ∧ tx = false) := by cases ty <;> cases tx <;> simp at t ⊢
    clear t HRe HRo HRs
    rcases t2 with rfl | ⟨rfl, rfl⟩
    all_goals
      go_wp2_with fail
      with_reducible refine (CE0.out _ ?_).mono ?_
      · rfl
      intro e w4 hG
      have HE := Lib.hid (hres_keep HH2.out hG)
      obtain ⟨v, rfl, -, -⟩ := hG
      go_wp2_with fail
      go_ret
      exact hres_to HE.out HR.out.symm

end Go.Proofs.YtjikppjlkicgpaaDoor.HasM
namespace Go.Proofs.YtjikppjlkicgpaaDoor.HasM
open Go.RowKit Kit StrT RowG BOrd ValT StoT ReplyT ReplyMath Low DoT HasT ValM BytesIn NumL NumW ReplyM LawK
open RefTab (results_cell_slot)
set_option linter.unusedVariables false
set_option maxRecDepth 100000

theorem del_cut (w0 w : World) (g : Nat) (q : Option Addr) (n c : Nat) (H : List Pr) (h : HB w0 w g q n c H) (p : Nat) (hp : p < n) :
    Calls Tryd.prog 47 #[.slice q n c, .int .i64 (p : Int), .int .i64 ((p : Int) + 1)] w fun e w' => e = .returned (.slice q (n - 1) c) ∧ OwnR prE w0.heap.size w' (.slice q (n - 1) c) (H.take p ++ H.drop (p + 1)) ∧ Below w0.heap.size w0 w' ∧ w'.heap[g]? = w.heap[g]? := by
  refine (delete_any w0 w q n c p H h.bl h.ow h.ln hp h.lm).mono ?_
  rintro e w' ⟨rfl, ho, hb', hk⟩
  exact ⟨rfl, ho, hb', hk g (fun e => apart h.ow h.hp g e.symm rfl)⟩
theorem take_wd {A : List (List UInt8)} {k : Nat} (h : k < A.length) : A.take (k + 1) = A.take k ++ [wd A k] := by
  rw [List.take_succ_eq_append_getElem h]
  unfold wd
  rw [List.getD_eq_getElem?_getD, List.getElem?_eq_getElem h]
  rfl

set_option maxHeartbeats 8000000 in
theorem m_del (w0 w : World) (g : Nat) (q : Option Addr) (n : Nat) (H : List Pr) (qw : Option Addr) (nw cw : Nat) (A : List (List UInt8)) (h : HB w0 w g q n n H) (hW : WS w0 qw nw cw A) (hg : Gd w0) (ht : Tame 2 H A) :
    Calls Tryd.prog 35 #[.pointer (some ⟨g, 0, none⟩), .slice qw nw cw] w (HRes w0 g (rowD 2 H A)) := by
  have hn := h.ln
  have hm := h.lm
  have hc := h.cell
  have HH := Lib.hid h
  have HW := Lib.hid hW
  have HA := Lib.hid hW.wn
  have hnw : nw ≤ 1048576 := by rw [← hW.wn]; exact ht.2
  have CI := Lib.hid (fun (z : Int) W (hz : -1048576 ≤ z ∧ z ≤ 1048576) (hW : Below w0.heap.size w0 W) => int_any z W (by omega) (by omega) (hg.keep hW).gt)
  have HR := Lib.hid (fun (m : Nat) (hl : (delP H A).length = m) => (show rowD 2 H A = (delP H A, int ((n : Int) - (m : Int))) by rw [← hl, ← hn]; rfl))
  clear h hW hg ht hn
  go_enter Tryd.func35, Tryd.ntmps35
  go_wp2_with fail
  go_loopw [17] (fun i wr => ∃ k : Nat, i = .int .i64 (k : Int) ∧ k ≤ nw ∧ Hid (∃ q n c, HB w0 wr g q n c (delP H (A.take k)))) (fun i _ => nw - (intOf i).toNat)
  case atStart => exact ⟨0, rfl, Nat.zero_le _, Lib.hid ⟨q, n, n, by rw [List.take_zero, del_nil]; exact HH.out⟩⟩
  case round =>
    obtain ⟨k, rfl, hk, HB0⟩ := hrel
    obtain ⟨q1, n1, c1, hB1⟩ := HB0.out
    have HB1 := Lib.hid hB1
    clear HB0 hB1 HH hc
    by_cases hlt : k < nw
    · obtain ⟨b, off, rfl, hb, c0⟩ := word_at HW.out HB1.out.bl k hlt
      obtain ⟨N, hN, hN2⟩ := str_of (wd A k)
      rw [hN2] at c0
      have HT := Lib.hid (show delP H (A.take (k + 1)) = delP (delP H (A.take k)) [N.data.toList] by rw [take_wd (by rw [HA.out]; exact hlt), del_snoc, hN])
      obtain ⟨G, hG⟩ : ∃ G, G = delP H (A.take k) := ⟨_, rfl⟩
      rw [← hG] at HB1 HT
      have CP := Lib.hid (place_any w0 wr g q1 n1 c1 G N HB1.out)
      have k0 : (0 : Int) ≤ (k : Int) := by omega
      have kn : (k : Int) < (nw : Int) := by omega
      clear hb hN hN2 hG
      rcases pos_get N.data.toList HB1.out.up with ⟨g1, g2, -, -⟩ | ⟨g1, -, -⟩
      · have hp : posP G N.data.toList < n1 := by rw [← HB1.out.ln]; exact g2
        have HD := Lib.hid (del_there N.data.toList HB1.out.up g1)
        have HDu := Lib.hid (del_up [N.data.toList] HB1.out.up)
        have HDl := Lib.hid (show (delP G [N.data.toList]).length = n1 - 1 by rw [HD.out, List.length_append, List.length_take, List.length_drop, HB1.out.ln]; omega)
        rw [g1] at CP
        have hn1 := HB1.out.lm
        have CD := Lib.hid (fun W (hW : HB w0 W g q1 n1 c1 G) => del_cut w0 W g q1 n1 c1 G hW _ hp)
        obtain ⟨p, hpe⟩ : ∃ p, p = posP G N.data.toList := ⟨_, rfl⟩
        rw [← hpe] at CP CD HD hp
        have hw : IntKind.i64.wrap ((p : Int) + 1) = (p : Int) + 1 := IntWalk.i64_in _ (by omega)
        have HWr := Lib.hid hw
        clear g1 g2 hpe hw
        go_wp2_with fail
        with_reducible refine CP.out.mono ?_
        rintro e w1 ⟨rfl, hb1⟩
        have HB2 := Lib.hid (HB1.out.keep hb1)
        have hc2 := HB2.out.cell
        have CD1 := Lib.hid (CD.out w1 HB2.out)
        clear CP CD HB1 hb1
        go_wp2_with fail
        with_reducible refine CD1.out.mono ?_
        rintro e w2 ⟨rfl, ho, hb2, hg2⟩
        have HB3 := Lib.hid (HB2.out.turn hb2 hg2 ho (by rw [← HD.out]; exact HDl.out) (by rw [← HD.out]; exact HDu.out) (by omega))
        have hg3 := hg2.trans HB2.out.hp
        have hc3 : w2.cell? ⟨g, 0, none⟩ = some (.slice q1 n1 c1) := by
          rw [cell_of_row _ _ _ _ 56 _ hg3]
          rfl
        have f3 : w2.frozen? ⟨g, 0, none⟩ = false := frozen_of_row _ _ _ _ 56 hg3
        rw [← HD.out, ← HT.out] at HB3
        clear ho hb2 hg2 hg3 HB2 CD1 HD HDu HDl HT
        go_wp2_with fail
        go_roundw
        case rel => exact ⟨k + 1, by go_num, by omega, Lib.hid ⟨_, _, _, HB3.out⟩⟩
        case measure => simp [intOf]; omega
      · have HD := Lib.hid (del_not N.data.toList G g1)
        rw [g1] at CP
        generalize posP G N.data.toList = p at CP
        rw [HD.out] at HT
        clear g1 HD
        go_wp2_with fail
        with_reducible refine CP.out.mono ?_
        rintro e w1 ⟨rfl, hb1⟩
        have HB2 := Lib.hid (HB1.out.keep hb1)
        clear CP HB1 hb1
        rw [← HT.out] at HB2
        go_wp2_with fail
        go_roundw
        case rel => exact ⟨k + 1, by go_num, by omega, Lib.hid ⟨_, _, _, HB2.out⟩⟩
        case measure => simp [intOf]; omega
    · have hAk : A.take k = A := List.take_of_length_le (by rw [HA.out]; omega)
      rw [hAk] at HB1
      have hc2 := HB1.out.cell
      have hn1 := HB1.out.lm
      have HRn := Lib.hid (HR.out n1 HB1.out.ln)
      have CI1 := Lib.hid (CI.out ((n : Int) - (n1 : Int)) wr (by omega) HB1.out.bl)
      clear CI HR hAk
      go_wp2_with fail
      with_reducible refine CI1.out.mono ?_
      intro e w2 hG
      have HE := Lib.hid (hres_keep HB1.out hG)
      obtain ⟨v, rfl, -, -⟩ := hG
      go_wp2_with fail
      go_ret
      exact hres_to HE.out HRn.out.symm

theorem all_take {H : List Pr} {k : Nat} (h : k < H.length) : allP (H.take (k + 1)) = allP (H.take k) ++ [H[k].name, H[k].val] := by
  unfold allP
  rw [List.take_succ_eq_append_getElem h, List.map_append, List.flatten_append]
  rfl
theorem rs_two (w : World) (o : Obj) (a b : ByteArray) : Rs strE ((w.alloc o).alloc (.cells #[.string a, .string b] 9)) (some ⟨w.heap.size + 1, 0, none⟩) [a.data.toList, b.data.toList] := by
  have := rs_ss.2 (DoV.ss2_new (w.alloc o) a b)
  simpa using this
set_option maxHeartbeats 8000000 in
theorem m_all (w0 w : World) (g : Nat) (q : Option Addr) (n : Nat) (H : List Pr) (qw : Option Addr) (nw cw : Nat) (A : List (List UInt8)) (h : HB w0 w g q n n H) (hW : WS w0 qw nw cw A) (hg : Gd w0) (ht : Tame 4 H A) :
    Calls Tryd.prog 37 #[.pointer (some ⟨g, 0, none⟩), .slice qw nw cw] w (HRes w0 g (rowD 4 H A)) := by
  have hn := h.ln
  obtain ⟨-, h2, h3⟩ := ht
  have hm : n ≤ 2048 := by rw [← hn]; exact h2
  have hc := h.cell
  have HH := Lib.hid h
  have HRs := Lib.hid h.rs
  have HN := Lib.hid hn
  have HG := Lib.hid hg
  have HL := Lib.hid (show (allP H).length = n + n ∧ (allP H).flatten.length ≤ 1048576 from ⟨by rw [all_len, hn]; omega, h3⟩)
  have HT := Lib.hid (fun k (hk : k < n) => all_take (H := H) (k := k) (by rw [HN.out]; exact hk))
  clear h hW hg hn h2 h3
  go_enter Tryd.func37, Tryd.ntmps37
  go_wp2_with fail
  go_loopw [5, 13] (fun v i wr => ∃ k : Nat, i = .int .i64 (k : Int) ∧ k ≤ n ∧ Hid (OwnR strE w.heap.size wr v (allP (H.take k))) ∧ Hid (Below w.heap.size w wr)) (fun _ i _ => n - (intOf i).toNat)
  case atStart => exact ⟨0, rfl, Nat.zero_le _, Lib.hid (ownR_nil _ _ _), Lib.hid (Below.refl _ _)⟩
  case round =>
    obtain ⟨k, rfl, hk, HO, HB⟩ := hrel
    clear hc
    by_cases hlt : k < n
    · obtain ⟨b, off, rfl, hb, u0, u1⟩ := pair_cells (HRs.out.keep HB.out) k (by rw [HN.out]; exact hlt)
      obtain ⟨X, hX, hX2⟩ := str_of (H[k]'(by rw [HN.out]; exact hlt)).name
      obtain ⟨Y, hY, hY2⟩ := str_of (H[k]'(by rw [HN.out]; exact hlt)).val
      rw [hX2] at u0
      rw [hY2] at u1
      have HTk := Lib.hid (show allP (H.take (k + 1)) = allP (H.take k) ++ [X.data.toList, Y.data.toList] by rw [HT.out k hlt, hX, hY])
      have HLk := Lib.hid (show (allP (H.take k)).length ≤ 4096 by rw [all_len, List.length_take, HN.out]; omega)
      have k0 : (0 : Int) ≤ (k : Int) := by omega
      have kn : (k : Int) < (n : Int) := by omega
      have HB2 := Lib.hid (show Below w.heap.size w ((wr.alloc (.cells #[.string X, .string Y] 40)).alloc (.cells #[.string X, .string Y] 9)) from (HB.out.alloc HB.out.size _).alloc (by have := HB.out.size; simp; omega) _)
      have HO2 := Lib.hid (show OwnR strE w.heap.size ((wr.alloc (.cells #[.string X, .string Y] 40)).alloc (.cells #[.string X, .string Y] 9)) u5 (allP (H.take k)) from HO.out.keep (((Below.refl _ _).alloc (Nat.le_refl _) _).alloc (by simp) _))
      have HR2 := Lib.hid (rs_two wr (.cells #[.string X, .string Y] 40) X Y)
      clear hb hX hX2 hY hY2
      go_wp2_with (at_builtin; refine wpList_append_rs strE (w0 := w) rfl (.tmp 17) (.tmp 22) rfl u5 (allP (H.take k)) rfl HO2.out HB2.out (some ⟨wr.heap.size + 1, 0, none⟩) [X.data.toList, Y.data.toList] 2 2 rfl rfl HR2.out (fun h => by cases h) (by have := HLk.out; omega) _ HTk.out ?_; intro v1 w1 ho1 hb1)
      go_roundw
      case rel => exact ⟨k + 1, by go_num, by omega, Lib.hid ho1, Lib.hid hb1⟩
      case measure => simp [intOf]; omega
    · have hAk : H.take k = H := List.take_of_length_le (by rw [HN.out]; omega)
      rw [hAk] at HO
      obtain ⟨q1, c1, rfl, hS, -, h5, h6, h7⟩ := OwnR.ans HO.out
      have HB1 := Lib.hid (HH.out.keep HB.out)
      have CT := Lib.hid (texts_sum q1 (allP H) (n + n) c1 wr HL.out.1 (rs_ss.1 hS) (by rw [← HL.out.1]; exact h5) h6 h7 (by omega) HL.out.2 (HG.out.keep HB1.out.bl).gt)
      have HR := Lib.hid (show rowD 4 H A = (H, texts (allP H)) from rfl)
      rw [HL.out.1]
      clear hS h5 h6 h7 hAk HO HT
      go_wp2_with fail
      with_reducible refine CT.out.mono ?_
      intro e w2 hG
      have HE := Lib.hid (hres_keep HB1.out hG)
      obtain ⟨v, rfl, -, -⟩ := hG
      go_wp2_with fail
      go_ret
      exact hres_to HE.out HR.out.symm

/-- A hash as a value. -/
def pvH (q : Option Addr) (n c : Nat) (H : List Pr) : PV := ⟨3, ⟨#[]⟩, none, 0, 0, q, n, c, none, 0, 0, ⟨3, [], [], H, []⟩⟩
theorem pvH_in {w : World} {q : Option Addr} {n c : Nat} {H : List Pr} (hn : H.length = n) (h1 : n ≤ c) (h2 : c ≤ 9223372036854775807) (h3 : q = none → c = 0) (h4 : Rs prE w q H) (hz : n ≤ 1048576) : (pvH q n c H).In w :=
  ⟨rfl, by simp [pvH], rfl, Rs.nil _ _ _, h4, Rs.nil _ _ _, rfl, hn, rfl, by simp [pvH], hz, by simp [pvH], by simp [pvH], h1, by simp [pvH], by simp [pvH], h2, by simp [pvH], fun _ => rfl, h3, fun _ => rfl⟩
theorem hashV_some {H : List Pr} (h : 0 < H.length) : hashV H = ⟨3, [], [], H, []⟩ := by
  cases H with
  | nil => simp at h
  | cons x l => rfl
set_option maxHeartbeats 4000000 in
theorem m_value (w0 w : World) (g : Nat) (q : Option Addr) (n c : Nat) (H : List Pr) (h : HB w0 w g q n c H) :
    Calls Tryd.prog 27 #[.pointer (some ⟨g, 0, none⟩)] w fun e w' => ∃ p : PV, e = .returned p.agg ∧ p.In w' ∧ p.d = hashV H ∧ (∀ j, p.at_ j → w0.heap.size ≤ j) ∧ Below w.heap.size w w' := by
  have hc := h.cell
  have hlt := h.lt
  have HCc := Lib.hid (fun o => (((ReplyT.below1 w o).cell (p := ⟨g, 0, none⟩) hlt).trans hc))
  have hc2 := HCc.out (.cells #[.int .u8 0, .string ⟨#[]⟩, .slice none 0 0, .slice none 0 0, .slice none 0 0] 26)
  rcases Nat.eq_zero_or_pos n with h0 | h0
  · subst h0
    obtain rfl : H = [] := List.eq_nil_of_length_eq_zero h.ln
    have HCs := Lib.hid (show (Tryd.prog.info? 26).map (·.size) = some (#[.int .u8 0, .string ⟨#[]⟩, .slice none 0 0, .slice none 0 0, .slice none 0 0] : Array Value).size from val_size)
    clear h HCc hc
    go_enter Tryd.func27, Tryd.ntmps27
    go_wp2_with fail
    exact bodyPost_ret (results_cell_row rfl _ _ w.heap.size 26 #[.int .u8 0, .string ⟨#[]⟩, .slice none 0 0, .slice none 0 0, .slice none 0 0] (0, 0) _ rfl (heap_alloc_last w _) Tryd.underlying26 rfl HCs.out) rfl ⟨pv0, rfl, pv0_in _, rfl, fun j hj => absurd hj (pv0_at j), (Below.refl _ _).alloc (Nat.le_refl _) _⟩
  · obtain ⟨q', c', e, hR, hge, h5, h6, h7⟩ := OwnR.ans h.ow
    injection e with e1 e2 e3
    clear e2
    subst e1 e3
    rw [h.ln] at h5
    have HCs := Lib.hid (show (Tryd.prog.info? 26).map (·.size) = some (#[.int .u8 3, .string ⟨#[]⟩, .slice none 0 0, .slice q n c, .slice none 0 0] : Array Value).size from val_size)
    have HI := Lib.hid (fun W (hW : Below w.heap.size w W) => pvH_in h.ln h5 h6 h7 (hR.keep hW) h.lm)
    have HL := Lib.hid (show (pvH q n c H).d = hashV H from (hashV_some (by rw [h.ln]; exact h0)).symm)
    have HA := Lib.hid hge
    have nz : ((n : Int) == 0) = false := by rw [beq_eq_false_iff_ne]; omega
    have nz2 : ¬ (n : Int) = 0 := by omega
    clear h HCc hc hR hge h5 h6 h7
    go_enter Tryd.func27, Tryd.ntmps27
    go_wp2_with fail
    exact bodyPost_ret (results_cell_row rfl _ _ w.heap.size 26 #[.int .u8 3, .string ⟨#[]⟩, .slice none 0 0, .slice q n c, .slice none 0 0] (0, 0) _ rfl (heap_alloc_last w _) Tryd.underlying26 rfl HCs.out) rfl ⟨pvH q n c H, rfl, HI.out _ (Kit.below1 _ _), HL.out, fun j hj => by
      unfold PV.at_ pvH at hj
      simp at hj
      obtain ⟨-, a, e, rfl⟩ := hj
      exact HA.out a e, (Below.refl _ _).alloc (Nat.le_refl _) _⟩

end Go.Proofs.YtjikppjlkicgpaaDoor.HasM
