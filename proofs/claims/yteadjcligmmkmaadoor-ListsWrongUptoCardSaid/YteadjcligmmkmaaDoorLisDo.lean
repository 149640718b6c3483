/-
  The landed code of layer 12: what each command does with a row of texts.
-/
import Derived.Test.YteadjcligmmkmaaDoorLisMath
import Derived.Test.YteadjcligmmkmaaDoorDoRow
import Derived.Test.YteadjcligmmkmaaDoorReplyJoin
import Derived.Test.YteadjcligmmkmaaDoorRefTabs
import Derived.Test.YteadjcligmmkmaaDoorStrApp
import Derived.Deep.RegionLaw
import Derived.Lib.SliceRun
import Derived.Deep.WholeRow
import Derived.Deep.QuietTactic
import Derived.BigQuiet
namespace Go.Proofs.YteadjcligmmkmaaDoor.LisM
open Go.RowKit Kit StrT RowG BOrd ValT StoT ReplyT ReplyMath ValM BytesIn DoT LisT NumL NumW ReplyM
set_option linter.unusedVariables false
set_option maxRecDepth 100000

/-- What a command leaves: a row in blocks of the call's own, and a reply. -/
def RowD (B : Nat) (w0 : World) (x : List (List UInt8) × List UInt8) (e : Ending) (w' : World) : Prop :=
  ∃ q n c vr, e = .returned (.tuple #[.slice q n c, vr]) ∧ x.1.length = n ∧ n ≤ c ∧ c ≤ 9223372036854775807 ∧ (q = none → c = 0) ∧ StrT.Ss w' q x.1 ∧ (∀ a, q = some a → B ≤ a.block) ∧ Ans B w' vr x.2 ∧ Below B w0 w'
/-- What a command is called with: a row of the call's own, and words. -/
structure RowI (w0 w : World) (ql : Option Addr) (nl cl : Nat) (L : List (List UInt8)) (qw : Option Addr) (nw cw : Nat) (A : List (List UInt8)) : Prop where
  bl : Below w0.heap.size w0 w
  ow : OwnR strE w0.heap.size w (.slice ql nl cl) L
  wn : A.length = nw
  wc : nw ≤ cw
  wz : qw = none → cw = 0
  ws : StrT.Ss w qw A
  gd : Gd w0
section
variable {w0 w : World} {ql : Option Addr} {nl cl : Nat} {L : List (List UInt8)} {qw : Option Addr} {nw cw : Nat} {A : List (List UInt8)}
theorem RowI.row (h : RowI w0 w ql nl cl L qw nw cw A) : L.length = nl ∧ nl ≤ cl ∧ cl ≤ 9223372036854775807 ∧ (ql = none → cl = 0) ∧ StrT.Ss w ql L ∧ (∀ a, ql = some a → w0.heap.size ≤ a.block) := by
  obtain ⟨q, c, e, h1, h2, h3, h4, h5⟩ := OwnR.ans h.ow
  injection e with e1 e2 e3
  subst e1 e2 e3
  exact ⟨rfl, h3, h4, h5, rs_ss.1 h1, h2⟩
end
theorem RowI.g {w0 w : World} {ql : Option Addr} {nl cl : Nat} {L : List (List UInt8)} {qw : Option Addr} {nw cw : Nat} {A : List (List UInt8)} (h : RowI w0 w ql nl cl L qw nw cw A) : Gd w := h.gd.keep h.bl
theorem ownR_ss {base : Nat} {w : World} {v : Value} {L : List (List UInt8)} (h : OwnR strE base w v L) : ∃ q c, v = .slice q L.length c ∧ L.length ≤ c ∧ c ≤ 9223372036854775807 ∧ (q = none → c = 0) ∧ StrT.Ss w q L ∧ (∀ a, q = some a → base ≤ a.block) := by
  obtain ⟨q, c, e, h1, h2, h3, h4, h5⟩ := OwnR.ans h
  exact ⟨q, c, e, h3, h4, h5, rs_ss.1 h1, h2⟩

set_option maxHeartbeats 4000000 in
theorem length_any (w0 w : World) (ql : Option Addr) (nl cl : Nat) (L : List (List UInt8)) (qw : Option Addr) (nw cw : Nat) (A : List (List UInt8)) (h : RowI w0 w ql nl cl L qw nw cw A) (ht : Tame 4 L A) (hz : L.length ≤ 1048576) :
    Calls Tryd.prog 38 #[.slice ql nl cl, .slice qw nw cw] w (RowD w0.heap.size w0 (rowD 4 L A)) := by
  obtain ⟨hn, h1, h2, h3, h4, h5⟩ := h.row
  have C := Lib.hid (int_any (nl : Int) w (by omega) (by omega) h.g.gt)
  have HB := Lib.hid h.bl
  have HR := Lib.hid (show rowD 4 L A = (L, int (nl : Int)) by subst hn; rfl)
  have H := Lib.hid (show L.length = nl ∧ nl ≤ cl ∧ cl ≤ 9223372036854775807 ∧ (ql = none → cl = 0) ∧ StrT.Ss w ql L ∧ (∀ a, ql = some a → w0.heap.size ≤ a.block) from ⟨hn, h1, h2, h3, h4, h5⟩)
  clear h ht hz hn h1 h2 h3 h4 h5
  go_enter Tryd.func38, Tryd.ntmps38
  go_wp2_with fail
  with_reducible refine C.out.mono ?_
  rintro e w1 ⟨vr, rfl, hA, hb⟩
  go_wp2_with fail
  go_ret2
  obtain ⟨hn, h1, h2, h3, h4, h5⟩ := H.out
  rw [HR.out]
  exact ⟨ql, nl, cl, vr, rfl, hn, h1, h2, h3, h4.keep hb, h5, hA.base HB.out.size, HB.out.trans (hb.mono HB.out.size)⟩

set_option maxHeartbeats 4000000 in
theorem behind_any (w0 w : World) (ql : Option Addr) (nl cl : Nat) (L : List (List UInt8)) (qw : Option Addr) (nw cw : Nat) (A : List (List UInt8)) (h : RowI w0 w ql nl cl L qw nw cw A) (ht : Tame 1 L A) (hz : L.length ≤ 1048576) :
    Calls Tryd.prog 35 #[.slice ql nl cl, .slice qw nw cw] w (RowD w0.heap.size w0 (rowD 1 L A)) := by
  obtain ⟨hn, -⟩ := h.row
  have HT := Lib.hid (show nw + nl ≤ 1048576 by have := h.wn; have : A.length + L.length ≤ 1048576 := ht; omega)
  have HI := Lib.hid h
  have HR := Lib.hid (show rowD 1 L A = (L ++ A, int ((nl : Int) + (nw : Int))) by have h2 := h.wn; subst hn h2; show (L ++ A, int ((L.length + A.length : Nat) : Int)) = _; rw [Int.natCast_add])
  have HN := Lib.hid (show (L ++ A).length = nl + nw by have h2 := h.wn; subst hn h2; simp)
  have C := Lib.hid (fun W (hW : Below w0.heap.size w0 W) => int_any ((nl : Int) + (nw : Int)) W (by have := HT.out; omega) (by have := HT.out; omega) (h.gd.keep hW).gt)
  clear h ht hz
  go_enter Tryd.func35, Tryd.ntmps35
  go_wp2_with (at_builtin; refine wpList_append_rs strE (w0 := w0) rfl (.tmp 6) (.tmp 7) rfl (.slice ql nl cl) L rfl HI.out.ow HI.out.bl qw A nw cw rfl HI.out.wn (rs_ss.2 HI.out.ws) HI.out.wz (by have := HT.out; omega) _ rfl ?_; intro v1 w1 ho1 hb1; obtain ⟨q1, c1, rfl, h1, h2, h3, h4, h5⟩ := ownR_ss ho1; rw [HN.out] at h1 ⊢)
  have H1 := Lib.hid (show nl + nw ≤ c1 ∧ c1 ≤ 9223372036854775807 ∧ (q1 = none → c1 = 0) ∧ StrT.Ss w1 q1 (L ++ A) ∧ (∀ a, q1 = some a → w0.heap.size ≤ a.block) from ⟨h1, h2, h3, h4, h5⟩)
  have HB := Lib.hid hb1
  clear ho1 hb1 h1 h2 h3 h4 h5 hn
  clear HI HT
  go_wp2_with fail
  with_reducible refine (C.out w1 HB.out).mono ?_
  rintro e w2 ⟨vr, rfl, hA, hb⟩
  go_wp2_with fail
  go_ret2
  obtain ⟨h1, h2, h3, h4, h5⟩ := H1.out
  rw [HR.out]
  exact ⟨q1, nl + nw, c1, vr, rfl, HN.out, h1, h2, h3, h4.keep hb, h5, hA.base HB.out.size, HB.out.trans (hb.mono HB.out.size)⟩

set_option maxHeartbeats 4000000 in
theorem clone_any (qw : Option Addr) (nw cw : Nat) (A : List (List UInt8)) (w : World) (hn : A.length = nw) (hs : StrT.Ss w qw A) (hz : qw = none → cw = 0) (hm : nw ≤ 1048576) :
    Calls Tryd.prog 43 #[.slice qw nw cw] w fun e w' => ∃ v, e = .returned v ∧ OwnR strE w.heap.size w' v A ∧ Below w.heap.size w w' := by
  have e0 : ∀ W (a : Option Addr) (x y : Nat), (binOp .eql 22 (.slice a x y) (.slice none 0 0)).run Tryd.prog W = .ok (.bool a.isNone) W := fun W a x y => Go.Lib.run_eql_slice_nil W 22 strE.ty a x y 0 0 strE.und
  cases qw with
  | none =>
    have e1 := fun W => e0 W none nw cw
    obtain rfl : A = [] := by
      cases A with
      | nil => rfl
      | cons y r => obtain ⟨b, off, e, -⟩ := hs (by simp); cases e
    clear hn hs hz hm
    go_enter Tryd.func43, Tryd.ntmps43
    go_wp2_with fail
    go_ret
    exact ⟨_, rfl, ownR_nil _ _ _, Below.refl _ _⟩
  | some ad =>
    have e1 := fun W x y => e0 W (some ad) x y
    have HS := Lib.hid (rs_ss.2 (hs.keep (Kit.below1 w (.cells #[] 9))))
    have HN := Lib.hid hn
    have HO := Lib.hid (ownR_new strE w.heap.size w w.heap.size rfl (Nat.le_refl _))
    have HB := Lib.hid (Kit.below1 w (.cells #[] 9))
    clear hs hn hz
    go_enter Tryd.func43, Tryd.ntmps43
    go_wp2_with (at_builtin; refine wpList_append_rs strE (w0 := w) rfl (.tmp 5) (.tmp 6) rfl (.slice (some ⟨w.heap.size, 0, none⟩) 0 0) [] rfl HO.out HB.out (some ad) A nw cw rfl HN.out HS.out (by simp) (by simp; omega) _ rfl ?_; intro v1 w1 ho1 hb1)
    go_ret
    exact ⟨_, rfl, ho1, hb1⟩

theorem OwnR.blk {w : World} {base : Nat} {L : List (List UInt8)} {v : Value} (h : OwnR strE base w v L) (h0 : 0 < L.length) : ∃ g cap, v = .slice (some ⟨g, 0, none⟩) L.length cap ∧ base ≤ g ∧ OwnB strE w g L.length cap L := by
  obtain ⟨q, c, e, h1, h2, h3, h4⟩ := OwnR.rowO h
  rcases h4 with rfl | ⟨g, e2, hg, h4⟩
  · simp at h0
  · subst e2
    exact ⟨g, c, e, hg, h4⟩
theorem OwnB.str {w : World} {g n cap : Nat} {L : List (List UInt8)} (h : OwnB strE w g n cap L) (i : Nat) (S : ByteArray) (hS : L[i]? = some S.data.toList) : w.cell? ⟨g, i, none⟩ = some (.string S) := by
  have hi : i < L.length := (List.getElem?_eq_some_iff.1 hS).1
  have := OwnB.cell h i 0 hi (by decide)
  rw [show i * strE.sz + 0 = i from Nat.mul_one i] at this
  rw [this]
  rw [List.getElem?_eq_getElem hi] at hS
  injection hS with hS
  rw [hS]
  rfl
theorem OwnB.put {w : World} {g n cap : Nat} {L : List (List UInt8)} (h : OwnB strE w g n cap L) (i : Nat) (S : ByteArray) (hi : i < L.length) : OwnB strE (w.setCell ⟨g, i, none⟩ (.string S)) g n cap (L.set i S.data.toList) := by
  have := OwnB.set h i 0 S.data.toList (.string S) hi (by decide) rfl
  rw [show i * strE.sz + 0 = i from Nat.mul_one i] at this
  exact this
theorem OwnB.ownR {w : World} {base g n cap : Nat} {L : List (List UInt8)} (h : OwnB strE w g n cap L) (hg : base ≤ g) : OwnR strE base w (.slice (some ⟨g, 0, none⟩) n cap) L := by
  obtain ⟨h1, h2, cur, h3, h4, h5, h6⟩ := h
  subst h1
  exact ⟨by rw [flat_len], Or.inr ⟨g, cap, cur, rfl, hg, h3, h2, by unfold maxLen; omega, h5, h6⟩⟩

theorem str_ex (l : List UInt8) : ∃ S : ByteArray, S.data.toList = l := ⟨⟨l.toArray⟩, rfl⟩
set_option maxHeartbeats 4000000 in
theorem reverse_any (w0 w : World) (v : Value) (A : List (List UInt8)) (hb : Below w0.heap.size w0 w) (ho : OwnR strE w0.heap.size w v A) (hm : A.length ≤ 1048576) :
    Calls Tryd.prog 44 #[v] w fun e w' => e = .returned (.tuple #[]) ∧ OwnR strE w0.heap.size w' v A.reverse ∧ Below w0.heap.size w0 w' := by
  rcases Nat.eq_zero_or_pos A.length with h0 | h0
  · obtain rfl : A = [] := List.eq_nil_of_length_eq_zero h0
    obtain ⟨q, c, rfl, -⟩ := OwnR.rowO ho
    have HO := Lib.hid ho
    have HB := Lib.hid hb
    clear ho hb
    show Calls Tryd.prog 44 #[.slice q 0 c] w _
    go_enter Tryd.func44, Tryd.ntmps44
    go_wp2_with fail
    go_loopw [2, 3] (fun i j wr => i = .int .i64 0 ∧ j = .int .i64 (-1) ∧ wr = w) (fun i _ _ => 0)
    case atStart => exact ⟨rfl, rfl, rfl⟩
    case round =>
      obtain ⟨rfl, rfl, rfl⟩ := hrel
      go_wp2_with fail
      go_end0
      exact ⟨rfl, HO.out, HB.out⟩
  · obtain ⟨g, cap, rfl, hg, hO⟩ := OwnR.blk ho h0
    obtain ⟨n, hn⟩ : ∃ n, n = A.length := ⟨_, rfl⟩
    rw [← hn] at hO h0 hm ⊢
    have HN := Lib.hid hn
    have HO := Lib.hid hO
    have HB := Lib.hid hb
    have HG := Lib.hid hg
    clear ho hb hO hg hn
    go_enter Tryd.func44, Tryd.ntmps44
    go_wp2_with fail
    go_loopw [2, 3] (fun i j wr => ∃ (k : Nat) (jv : Int) (R : List (List UInt8)), k ≤ n ∧ i = .int .i64 (k : Int) ∧ j = .int .i64 jv ∧ Hid (jv = (n : Int) - 1 - (k : Int)) ∧ Hid (Turned A R k) ∧ Hid (OwnB strE wr g n cap R) ∧ Hid (Below w0.heap.size w0 wr)) (fun i _ _ => n - (intOf i).toNat)
    case atStart => exact ⟨0, _, A, Nat.zero_le _, rfl, rfl, Lib.hid (by omega), Lib.hid (turned_zero A), HO, HB⟩
    case round =>
      obtain ⟨k, jv, R, hk, rfl, rfl, hj, hT, hO, hB⟩ := hrel
      have hjv := hj.out
      clear HO HB
      by_cases hlt : (k : Int) < jv
      · have t0 : decide ((k : Int) < jv) = true := decide_eq_true hlt
        obtain ⟨m, rfl⟩ : ∃ m : Nat, jv = (m : Int) := ⟨jv.toNat, by omega⟩
        have hRl := hT.out.1
        rw [← HN.out] at hRl
        have hkm : k < m := by omega
        have hmn : m < n := by omega
        obtain ⟨P, hP⟩ := str_ex (R[k]'(by omega))
        obtain ⟨Q, hQ⟩ := str_ex (R[m]'(by omega))
        have hP' : R[k]? = some P.data.toList := by rw [hP]; exact List.getElem?_eq_getElem _
        have hQ' : R[m]? = some Q.data.toList := by rw [hQ]; exact List.getElem?_eq_getElem _
        have c1 := OwnB.str hO.out k P hP'
        have c2 := OwnB.str hO.out m Q hQ'
        have f1 := OwnB.frz hO.out k
        have f2 := OwnB.frz hO.out m
        have k0 : (0 : Int) ≤ (k : Int) := by omega
        have m0 : (0 : Int) ≤ (m : Int) := by omega
        have kn : (k : Int) < (n : Int) := by omega
        have mn : (m : Int) < (n : Int) := by omega
        have HT2 := Lib.hid (turned_next hT.out (show m = A.length - 1 - k by rw [← HN.out]; omega) hkm _ _ hP' hQ')
        have HO1 := Lib.hid (show OwnB strE (((wr.setCell ⟨g, k, none⟩ (.string Q)).setCell ⟨g, m, none⟩ (.string P)).drew) g n cap ((R.set k Q.data.toList).set m P.data.toList) from OwnB.put (OwnB.put hO.out k Q (by omega)) m P (by simp; omega))
        have HB1 := Lib.hid (show Below w0.heap.size w0 (((wr.setCell ⟨g, k, none⟩ (.string Q)).setCell ⟨g, m, none⟩ (.string P)).drew) from ((hB.out.setCell (p := ⟨g, k, none⟩) HG.out _).setCell (p := ⟨g, m, none⟩) HG.out _).drew)
        have HJ := Lib.hid (show (m : Int) - 1 = (n : Int) - 1 - ((k + 1 : Nat) : Int) by omega)
        clear hP hQ hP' hQ' hjv
        go_wp2_with fail
        go_region
        all_goals
          go_wp2_with fail
          refine ⟨⟨k + 1, (m : Int) - 1, _, by omega, by go_num, rfl, HJ, HT2, HO1, HB1⟩, by simp [intOf]; omega⟩
      · have t0 : decide ((k : Int) < jv) = false := decide_eq_false hlt
        have HE := Lib.hid (show R = A.reverse from turned_end hT.out (by rw [← HN.out]; omega))
        clear hjv
        go_wp2_with fail
        go_end0
        exact ⟨rfl, by rw [← HE.out]; exact OwnB.ownR hO.out HG.out, hB.out⟩

set_option maxHeartbeats 4000000 in
theorem ahead_any (w0 w : World) (ql : Option Addr) (nl cl : Nat) (L : List (List UInt8)) (qw : Option Addr) (nw cw : Nat) (A : List (List UInt8)) (h : RowI w0 w ql nl cl L qw nw cw A) (ht : Tame 0 L A) (hz : L.length ≤ 1048576) :
    Calls Tryd.prog 34 #[.slice ql nl cl, .slice qw nw cw] w (RowD w0.heap.size w0 (rowD 0 L A)) := by
  obtain ⟨hn, hnl, -, hnz, hnS, -⟩ := h.row
  have HT := Lib.hid (show nw + nl ≤ 1048576 by have := h.wn; have : A.length + L.length ≤ 1048576 := ht; omega)
  have HL := Lib.hid (fun W (hb : Below w.heap.size w W) => rs_ss.2 (hnS.keep hb))
  have HLn := Lib.hid hn
  have HLz := Lib.hid hnz
  have HR := Lib.hid (show rowD 0 L A = (A.reverse ++ L, int ((nw : Int) + (nl : Int))) by have h2 := h.wn; subst hn h2; show (A.reverse ++ L, int ((A.length + L.length : Nat) : Int)) = _; rw [Int.natCast_add])
  have HN := Lib.hid (show (A.reverse ++ L).length = nw + nl by have h2 := h.wn; subst hn h2; simp)
  have HA := Lib.hid (show A.reverse.length = nw by have h2 := h.wn; subst h2; simp)
  have HA0 := Lib.hid h.wn
  have CC := Lib.hid (clone_any qw nw cw A w h.wn h.ws h.wz (by have := HT.out; omega))
  have CR := Lib.hid (fun W v (hW : Below w.heap.size w W) (ho : OwnR strE w.heap.size W v A) => reverse_any w W v A hW ho (by rw [h.wn]; have := HT.out; omega))
  have C := Lib.hid (fun W (hW : Below w0.heap.size w0 W) => int_any ((nw : Int) + (nl : Int)) W (by have := HT.out; omega) (by have := HT.out; omega) (h.gd.keep hW).gt)
  have HB := Lib.hid h.bl
  clear h ht hz hn hnl hnz hnS
  go_enter Tryd.func34, Tryd.ntmps34
  go_wp2_with fail
  with_reducible refine CC.out.mono ?_
  rintro e w1 ⟨v1, rfl, ho1, hb1⟩
  have HC := Lib.hid (CR.out w1 v1 hb1 ho1)
  obtain ⟨q1, c1, rfl, -⟩ := OwnR.rowO ho1
  rw [HA0.out] at HC ⊢
  clear ho1 hb1
  go_wp2_with fail
  with_reducible refine HC.out.mono ?_
  rintro e w2 ⟨rfl, ho2, hb2⟩
  have HO2 := Lib.hid ho2
  have HB2 := Lib.hid hb2
  have HL2 := Lib.hid (HL.out w2 hb2)
  clear ho2 hb2 HC CC CR
  go_wp2_with (at_builtin; refine wpList_append_rs strE (w0 := w) rfl (.tmp 11) (.tmp 12) rfl (.slice q1 nw c1) A.reverse rfl HO2.out HB2.out ql L nl cl rfl HLn.out HL2.out HLz.out (by have := HT.out; have := HA.out; omega) _ rfl ?_; intro v3 w3 ho3 hb3; obtain ⟨q3, c3, rfl, h1, h2, h3, h4, h5⟩ := ownR_ss ho3; rw [HN.out] at h1 ⊢)
  have H3 := Lib.hid (show nw + nl ≤ c3 ∧ c3 ≤ 9223372036854775807 ∧ (q3 = none → c3 = 0) ∧ StrT.Ss w3 q3 (A.reverse ++ L) ∧ (∀ a, q3 = some a → w.heap.size ≤ a.block) from ⟨h1, h2, h3, h4, h5⟩)
  have HB3 := Lib.hid (HB.out.trans (hb3.mono HB.out.size))
  clear ho3 hb3 h1 h2 h3 h4 h5 HO2 HB2 HL2
  go_wp2_with fail
  with_reducible refine (C.out w3 HB3.out).mono ?_
  rintro e w4 ⟨vr, rfl, hA, hb⟩
  go_wp2_with fail
  go_ret2
  obtain ⟨h1, h2, h3, h4, h5⟩ := H3.out
  rw [HR.out]
  exact ⟨q3, nw + nl, c3, vr, rfl, HN.out, h1, h2, h3, h4.keep hb, fun a ha => Nat.le_trans HB.out.size (h5 a ha), hA.base HB3.out.size, HB3.out.trans (hb.mono HB3.out.size)⟩

end Go.Proofs.YteadjcligmmkmaaDoor.LisM
