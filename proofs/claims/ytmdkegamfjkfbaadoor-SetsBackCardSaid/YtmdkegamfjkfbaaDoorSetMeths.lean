/-
  The landed code of layer 14: a text put in, and taken out; what is done with a set, command by command; its value.
-/
import Derived.Test.YtmdkegamfjkfbaaDoorSetRow
import Derived.Test.YtmdkegamfjkfbaaDoorSetPure
import Derived.Test.YtmdkegamfjkfbaaDoorDoRows
import Derived.Test.YtmdkegamfjkfbaaDoorLawKit
import Derived.Test.YtmdkegamfjkfbaaDoorReplyJoin
import Derived.Test.YtmdkegamfjkfbaaDoorReplyLine
import Derived.Test.YtmdkegamfjkfbaaDoorStrRowz
import Derived.Test.YtmdkegamfjkfbaaDoorRefTabs
import Derived.StillTailTactics
import Derived.Deep.QuietTactic
import Derived.BigQuiet
import Derived.Laws.EntriesVeiled
namespace Go.Proofs.YtmdkegamfjkfbaaDoor.SetM
open Go.RowKit Kit StrT RowG BOrd ValT StoT ReplyT ReplyMath Low DoT SetT ValM BytesIn NumL ReplyM LawK
set_option linter.unusedVariables false
set_option maxRecDepth 100000

/-- A set's texts, in a row that is the call's own. -/
structure RowI (w0 w : World) (q : Option Addr) (n c : Nat) (L : List (List UInt8)) : Prop where
  bl : Below w0.heap.size w0 w
  ow : OwnR strE w0.heap.size w (.slice q n c) L
  ln : L.length = n
  up : rises L
  lm : n ≤ 1048576
section
variable {w0 w : World} {n c : Nat} {q : Option Addr} {L : List (List UInt8)}
theorem RowI.keep {w' : World} (h : RowI w0 w q n c L) (hb : Below w.heap.size w w') : RowI w0 w' q n c L :=
  ⟨h.bl.trans (hb.mono h.bl.size), h.ow.keep hb, h.ln, h.up, h.lm⟩
theorem RowI.rs (h : RowI w0 w q n c L) : Rs strE w q L := by
  obtain ⟨q', c', e, hR, -⟩ := OwnR.ans h.ow
  injection e with e1 e2 e3
  subst e1
  exact hR
theorem RowI.blt (h : RowI w0 w q n c L) : ∀ k, (Value.slice q n c).ownBlock = some k → w0.heap.size ≤ k ∧ k < w.heap.size := by
  intro k hk
  rcases h.ow.2 with ⟨e, -⟩ | ⟨g, cap, cur, e, hg, h2, -⟩
  · rw [e] at hk
    cases hk
  · rw [e] at hk
    injection hk with hk
    subst hk
    exact ⟨hg, (Array.getElem?_eq_some_iff.1 h2).1⟩
theorem RowI.caps (h : RowI w0 w q n c L) : n ≤ c ∧ c ≤ 9223372036854775807 ∧ (q = none → c = 0) := by
  obtain ⟨q', c', e, -, -, h3, h4, h5⟩ := OwnR.ans h.ow
  injection e with e1 e2 e3
  subst e1 e3
  exact ⟨by rw [h.ln] at h3; exact h3, h4, h5⟩
end
/-- What a step of a set leaves: its row, in its block or in a new one; all other blocks are as they were. -/
structure StepR (w0 w w' : World) (q : Option Addr) (n c : Nat) (q' : Option Addr) (n' c' : Nat) (L' : List (List UInt8)) : Prop where
  ri : RowI w0 w' q' n' c' L'
  sz : w.heap.size ≤ w'.heap.size
  ot : ∀ k, k < w.heap.size → some k ≠ (Value.slice q n c).ownBlock → w'.heap[k]? = w.heap[k]?
  at_ : ∀ k, (Value.slice q' n' c').ownBlock = some k → (Value.slice q n c).ownBlock = some k ∨ w.heap.size ≤ k
def StepP (w0 w : World) (q : Option Addr) (n c : Nat) (L' : List (List UInt8)) (e : Ending) (w' : World) : Prop := ∃ q' n' c', e = .returned (.slice q' n' c') ∧ StepR w0 w w' q n c q' n' c' L'

set_option maxHeartbeats 4000000 in
theorem place_any (w0 w : World) (q : Option Addr) (n c : Nat) (L : List (List UInt8)) (X : ByteArray) (h : RowI w0 w q n c L) :
    Calls Tryd.prog 28 #[.slice q n c, .string X] w fun e w' => e = .returned (.tuple #[.int .i64 (posS L X.data.toList : Nat), .bool (hasS L X.data.toList)]) ∧ Below w.heap.size w w' := by
  have C := Lib.hid (search_any q L n c X w h.ln h.rs h.up h.lm)
  generalize posS L X.data.toList = p at C ⊢
  generalize hasS L X.data.toList = t at C ⊢
  clear h
  go_enter Tryd.func28, Tryd.ntmps28
  go_wp2_with fail
  with_reducible refine C.out.mono ?_
  rintro e w1 ⟨rfl, hb⟩
  go_wp2_with fail
  go_ret2
  exact ⟨rfl, hb⟩
theorem stepR_stay {w0 w w1 : World} {q : Option Addr} {n c : Nat} {L : List (List UInt8)} (h : RowI w0 w q n c L) (hb : Below w.heap.size w w1) : StepR w0 w w1 q n c q n c L :=
  ⟨h.keep hb, hb.size, fun k hk _ => hb.block k hk, fun k hk => Or.inl hk⟩
theorem ins_step (w0 w : World) (q : Option Addr) (n c : Nat) (L : List (List UInt8)) (X : ByteArray) (h : RowI w0 w q n c L) (hs : X.data.toList ∉ L) (hm : n + 1 ≤ 1048576) :
    Calls Tryd.prog 48 #[.slice q n c, .int .i64 (posS L X.data.toList : Nat), .slice (some ⟨w.heap.size, 0, none⟩) 1 1] (w.alloc (.cells #[.string X] 9)) fun e w' => ∃ q' c', e = .returned (.slice q' (n + 1) c') ∧ StepR w0 w w' q n c q' (n + 1) c' (insS L X.data.toList) := by
  have hb := Kit.below1 w (.cells #[.string X] 9)
  have h2 := h.keep hb
  have hp : posS L X.data.toList ≤ n := by rw [← h.ln]; exact posS_le _ _
  refine (insert_any w0 _ q n c (posS L X.data.toList) L X w.heap.size h2.bl h2.ow h.ln hp h.lm (heap_alloc_last w _) (fun k hk e => by have := (h.blt k hk).2; omega)).mono ?_
  rintro e w' ⟨q', c', rfl, ho, hb', hk, ha, hz⟩
  rw [← ins_new _ h.up hs] at ho
  have hsz : w.heap.size ≤ (w.alloc (.cells #[.string X] 9)).heap.size := hb.size
  exact ⟨q', c', rfl, ⟨hb', ho, by rw [ins_len hs, h.ln], ins_up _ h.up, hm⟩, Nat.le_trans hsz hz, fun k hk1 hk2 => (hk k (Nat.lt_of_lt_of_le hk1 hsz) hk2).trans (hb.block k hk1), fun k hk1 => (ha k hk1).imp id (fun h => Nat.le_trans hsz h)⟩
theorem del_step (w0 w : World) (q : Option Addr) (n c : Nat) (L : List (List UInt8)) (X : ByteArray) (h : RowI w0 w q n c L) (hs : X.data.toList ∈ L) :
    Calls Tryd.prog 47 #[.slice q n c, .int .i64 (posS L X.data.toList : Nat), .int .i64 ((posS L X.data.toList : Nat) + 1 : Int)] w fun e w' => e = .returned (.slice q (n - 1) c) ∧ StepR w0 w w' q n c q (n - 1) c (remS L [X.data.toList]) := by
  have hp : posS L X.data.toList < n := by
    rcases pos_has X.data.toList h.up with ⟨-, -, h3, -⟩ | ⟨-, h3, -⟩
    · rw [← h.ln]; exact h3
    · exact absurd hs h3
  refine (delete_any w0 w q n c (posS L X.data.toList) L h.bl h.ow h.ln hp h.lm).mono ?_
  rintro e w' ⟨rfl, ho, hb', hk, hz⟩
  rw [← rem_there _ h.up hs] at ho
  have hl := rem_one h.up _ hs [X.data.toList] (fun m => by simp)
  exact ⟨rfl, ⟨hb', ho, by have := h.ln; omega, rem_up _ h.up, by have := h.lm; omega⟩, by omega, fun k _ hk2 => hk k hk2, fun k hk1 => Or.inl (by
    rcases q with _ | a
    · cases hk1
    · exact hk1)⟩

set_option maxHeartbeats 8000000 in
theorem with_any (w0 w : World) (q : Option Addr) (n c : Nat) (L : List (List UInt8)) (X : ByteArray) (h : RowI w0 w q n c L) (hm : n + 1 ≤ 1048576) :
    Calls Tryd.prog 31 #[.slice q n c, .string X] w (StepP w0 w q n c (insS L X.data.toList)) := by
  have C := Lib.hid (place_any w0 w q n c L X h)
  have HH := Lib.hid h
  rcases pos_has X.data.toList h.up with ⟨h1, h2, -⟩ | ⟨h1, h2, -⟩
  · have HE := Lib.hid (ins_in h.up h2)
    rw [h1] at C
    generalize posS L X.data.toList = p at C
    clear h h1 h2
    go_enter Tryd.func31, Tryd.ntmps31
    go_wp2_with fail
    with_reducible refine C.out.mono ?_
    rintro e w1 ⟨rfl, hb⟩
    go_wp2_with fail
    go_ret
    rw [HE.out]
    exact ⟨q, n, c, rfl, stepR_stay HH.out hb⟩
  · have CI := Lib.hid (fun W (hW : RowI w0 W q n c L) => ins_step w0 W q n c L X hW h2 hm)
    rw [h1] at C
    generalize posS L X.data.toList = p at C CI
    clear h h1 h2 hm
    go_enter Tryd.func31, Tryd.ntmps31
    go_wp2_with fail
    with_reducible refine C.out.mono ?_
    rintro e w1 ⟨rfl, hb⟩
    have CI1 := Lib.hid (CI.out w1 (HH.out.keep hb))
    have HB := Lib.hid hb
    clear C CI hb
    go_wp2_with fail
    with_reducible refine CI1.out.mono ?_
    rintro e w2 ⟨q', c', rfl, hs⟩
    have HS := Lib.hid hs
    clear hs
    go_wp2_with fail
    go_ret
    exact ⟨q', n + 1, c', rfl, HS.out.ri, Nat.le_trans HB.out.size HS.out.sz, fun k h1 h2 => (HS.out.ot k (Nat.lt_of_lt_of_le h1 HB.out.size) h2).trans (HB.out.block k h1), fun k h1 => (HS.out.at_ k h1).imp id (fun h => Nat.le_trans HB.out.size h)⟩

set_option maxHeartbeats 8000000 in
theorem without_any (w0 w : World) (q : Option Addr) (n c : Nat) (L : List (List UInt8)) (X : ByteArray) (h : RowI w0 w q n c L) :
    Calls Tryd.prog 30 #[.slice q n c, .string X] w (StepP w0 w q n c (remS L [X.data.toList])) := by
  have C := Lib.hid (place_any w0 w q n c L X h)
  have HH := Lib.hid h
  rcases pos_has X.data.toList h.up with ⟨h1, h2, h3, -⟩ | ⟨h1, h2, -⟩
  · have CD := Lib.hid (fun W (hW : RowI w0 W q n c L) => del_step w0 W q n c L X hW h2)
    have hp : posS L X.data.toList ≤ 1048576 := by have := h.lm; rw [h.ln] at h3; omega
    rw [h1] at C
    generalize posS L X.data.toList = p at C CD hp
    have hw : IntKind.i64.wrap ((p : Int) + 1) = (p : Int) + 1 := IntWalk.i64_in _ (by omega)
    clear h h1 h2 h3
    go_enter Tryd.func30, Tryd.ntmps30
    go_wp2_with fail
    with_reducible refine C.out.mono ?_
    rintro e w1 ⟨rfl, hb⟩
    have CD1 := Lib.hid (CD.out w1 (HH.out.keep hb))
    have HB := Lib.hid hb
    clear C CD hb
    go_wp2_with fail
    with_reducible refine CD1.out.mono ?_
    rintro e w2 ⟨rfl, hs⟩
    have HS := Lib.hid hs
    clear hs
    go_wp2_with fail
    go_ret
    exact ⟨q, n - 1, c, rfl, HS.out.ri, Nat.le_trans HB.out.size HS.out.sz, fun k h1 h2 => (HS.out.ot k (Nat.lt_of_lt_of_le h1 HB.out.size) h2).trans (HB.out.block k h1), fun k h1 => (HS.out.at_ k h1).imp id (fun h => Nat.le_trans HB.out.size h)⟩
  · have HE := Lib.hid (rem_not h2)
    rw [h1] at C
    generalize posS L X.data.toList = p at C
    clear h h1 h2
    go_enter Tryd.func30, Tryd.ntmps30
    go_wp2_with fail
    with_reducible refine C.out.mono ?_
    rintro e w1 ⟨rfl, hb⟩
    go_wp2_with fail
    go_ret
    rw [HE.out]
    exact ⟨q, n, c, rfl, stepR_stay HH.out hb⟩

/-- The words of a request, from the third on. -/
structure WS (w0 : World) (qw : Option Addr) (nw cw : Nat) (A : List (List UInt8)) : Prop where
  wn : A.length = nw
  wc : nw ≤ cw
  ws : StrT.Ss w0 qw A
theorem word_at {w0 w : World} {qw : Option Addr} {nw cw : Nat} {A : List (List UInt8)} (h : WS w0 qw nw cw A) (hb : Below w0.heap.size w0 w) (j : Nat) (hj : j < nw) : ∃ b off, qw = some ⟨b, off, none⟩ ∧ b < w0.heap.size ∧ w.cell? ⟨b, off + j, none⟩ = some (.string ⟨(wd A j).toArray⟩) := by
  obtain ⟨b, off, e, hlt, hc⟩ := ss_word h.ws j (by rw [h.wn]; exact hj)
  exact ⟨b, off, e, hlt, (hb.cell (p := ⟨b, off + j, none⟩) hlt).trans hc⟩
theorem str_too (l : List UInt8) : ∃ S : ByteArray, S.data.toList = l ∧ (⟨l.toArray⟩ : ByteArray) = S := ⟨⟨l.toArray⟩, rfl, rfl⟩
/-- What a command leaves: a row of the call's own, and a reply. -/
def RowD (w0 : World) (x : List (List UInt8) × List UInt8) (e : Ending) (w' : World) : Prop := ∃ q n c vr, e = .returned (.tuple #[.slice q n c, vr]) ∧ RowI w0 w' q n c x.1 ∧ Ans w0.heap.size w' vr x.2
theorem rowD_of {w0 w w' : World} {q : Option Addr} {n c : Nat} {L : List (List UInt8)} {l : List UInt8} {v : Value} (h : RowI w0 w q n c L) (hA : Ans w.heap.size w' v l) (hb : Below w.heap.size w w') : RowD w0 (L, l) (.returned (.tuple #[.slice q n c, v])) w' :=
  ⟨q, n, c, v, rfl, h.keep hb, hA.base h.bl.size⟩
theorem rowD_to {w0 : World} {x y : List (List UInt8) × List UInt8} {e : Ending} {w' : World} (h : RowD w0 x e w') (hx : x = y) : RowD w0 y e w' := hx ▸ h

set_option maxHeartbeats 4000000 in
theorem count_any (w0 w : World) (q : Option Addr) (n c : Nat) (L : List (List UInt8)) (qw : Option Addr) (nw cw : Nat) (A : List (List UInt8)) (h : RowI w0 w q n c L) (hW : WS w0 qw nw cw A) (hg : Gt w0) (ht : Tame 4 L A) :
    Calls Tryd.prog 42 #[.slice q n c, .slice qw nw cw] w (RowD w0 (rowD 4 L A)) := by
  have hn := h.ln
  have hm := h.lm
  have C := Lib.hid (int_any (n : Int) w (by omega) (by omega) (hg.keep h.bl))
  have HH := Lib.hid h
  have HR := Lib.hid (show rowD 4 L A = (L, int (n : Int)) by rw [← hn]; rfl)
  clear h hn hW hg ht
  go_enter Tryd.func42, Tryd.ntmps42
  go_wp2_with fail
  with_reducible refine C.out.mono ?_
  rintro e w1 ⟨v, rfl, hA, hb⟩
  have HE := Lib.hid (rowD_of HH.out hA hb)
  clear hA hb
  go_wp2_with fail
  go_ret2
  exact rowD_to HE.out HR.out.symm

set_option maxHeartbeats 4000000 in
theorem members_any (w0 w : World) (q : Option Addr) (n c : Nat) (L : List (List UInt8)) (qw : Option Addr) (nw cw : Nat) (A : List (List UInt8)) (h : RowI w0 w q n c L) (hW : WS w0 qw nw cw A) (hg : Gt w0) (ht : Tame 3 L A) :
    Calls Tryd.prog 41 #[.slice q n c, .slice qw nw cw] w (RowD w0 (rowD 3 L A)) := by
  obtain ⟨-, h2, h3⟩ := ht
  obtain ⟨k1, k2, k3⟩ := h.caps
  have C := Lib.hid (texts_sum q L n c w h.ln (rs_ss.1 h.rs) k1 k2 k3 (by rw [← h.ln]; exact h2) h3 (hg.keep h.bl))
  have HH := Lib.hid h
  have HR := Lib.hid (show rowD 3 L A = (L, texts L) from rfl)
  clear h hW hg h2 h3 k1 k2 k3
  go_enter Tryd.func41, Tryd.ntmps41
  go_wp2_with fail
  with_reducible refine C.out.mono ?_
  rintro e w1 ⟨v, rfl, hA, hb⟩
  have HE := Lib.hid (rowD_of HH.out hA hb)
  clear hA hb
  go_wp2_with fail
  go_ret2
  exact rowD_to HE.out HR.out.symm

set_option maxHeartbeats 4000000 in
theorem isMember_any (w0 w : World) (q : Option Addr) (n c : Nat) (L : List (List UInt8)) (qw : Option Addr) (nw cw : Nat) (A : List (List UInt8)) (h : RowI w0 w q n c L) (hW : WS w0 qw nw cw A) (hg : Gt w0) (ht : Tame 2 L A) :
    Calls Tryd.prog 40 #[.slice q n c, .slice qw nw cw] w (RowD w0 (rowD 2 L A)) := by
  have h1 : 1 ≤ nw := by rw [← hW.wn]; exact ht.2
  obtain ⟨b, off, rfl, hb, c0⟩ := word_at hW h.bl 0 (by omega)
  rw [Nat.add_zero] at c0
  obtain ⟨X, hX, hX2⟩ := str_too (wd A 0)
  rw [hX2] at c0
  have C := Lib.hid (place_any w0 w q n c L X h)
  have CI := Lib.hid (fun (z : Int) W (hz : 0 ≤ z ∧ z ≤ 1) (hW : Below w0.heap.size w0 W) => int_any z W (by omega) (by omega) (hg.keep hW))
  have HH := Lib.hid h
  have HR := Lib.hid (show rowD 2 L A = (L, int (if X.data.toList ∈ L then 1 else 0)) by rw [hX]; rfl)
  have HT : Hid ((hasS L X.data.toList = true ∧ X.data.toList ∈ L) ∨ (hasS L X.data.toList = false ∧ X.data.toList ∉ L)) := Lib.hid (by
    rcases pos_has X.data.toList h.up with ⟨h1, h2, -⟩ | ⟨h1, h2, -⟩
    · exact Or.inl ⟨h1, h2⟩
    · exact Or.inr ⟨h1, h2⟩)
  generalize posS L X.data.toList = p at C
  have n0 : 0 < nw := by omega
  have n00 : (0 : Int) < (nw : Int) := by omega
  clear h hW hg ht h1 hb hX hX2
  rcases HT.out with ⟨t0, t1⟩ | ⟨t0, t1⟩
  · rw [t0] at C
    rw [if_pos t1] at HR
    clear t0 t1 HT
    go_enter Tryd.func40, Tryd.ntmps40
    go_wp2_with fail
    with_reducible refine C.out.mono ?_
    rintro e w1 ⟨rfl, hb⟩
    have HH1 := Lib.hid (HH.out.keep hb)
    have CI1 := Lib.hid (CI.out 1 w1 ⟨by decide, by decide⟩ HH1.out.bl)
    clear hb CI C
    go_wp2_with fail
    with_reducible refine CI1.out.mono ?_
    rintro e w2 ⟨v, rfl, hA, hb⟩
    have HE := Lib.hid (rowD_of HH1.out hA hb)
    clear hA hb
    go_wp2_with fail
    go_ret2
    exact rowD_to HE.out HR.out.symm
  · rw [t0] at C
    rw [if_neg t1] at HR
    clear t0 t1 HT
    go_enter Tryd.func40, Tryd.ntmps40
    go_wp2_with fail
    with_reducible refine C.out.mono ?_
    rintro e w1 ⟨rfl, hb⟩
    have HH1 := Lib.hid (HH.out.keep hb)
    have CI1 := Lib.hid (CI.out 0 w1 ⟨by decide, by decide⟩ HH1.out.bl)
    clear hb CI C
    go_wp2_with fail
    with_reducible refine CI1.out.mono ?_
    rintro e w2 ⟨v, rfl, hA, hb⟩
    have HE := Lib.hid (rowD_of HH1.out hA hb)
    clear hA hb
    go_wp2_with fail
    go_ret2
    exact rowD_to HE.out HR.out.symm

/-- The box of a closure: the step that it does a word. -/
def BoxAt (w : World) (bx : Nat) (f : FuncId) : Prop := w.heap[bx]? = some (.cells #[.func (.func f) #[] #[]] 40 (0, 0))
theorem BoxAt.lt {w : World} {bx : Nat} {f : FuncId} (h : BoxAt w bx f) : bx < w.heap.size := (Array.getElem?_eq_some_iff.1 h).1
theorem BoxAt.keep {w w' : World} {bx : Nat} {f : FuncId} (h : BoxAt w bx f) (hb : Below w.heap.size w w') : BoxAt w' bx f := (hb.block bx h.lt).trans h
theorem BoxAt.cell {w : World} {bx : Nat} {f : FuncId} (h : BoxAt w bx f) : w.cell? ⟨bx, 0, none⟩ = some (.func (.func f) #[] #[]) := by
  rw [cell_of_row _ _ _ _ 40 _ h]
  rfl

theorem str_func : (9 : TypeId) ≠ 40 := by decide
/-- A row of texts lies in another block than a box. -/
theorem box_apart {W : World} {base bx : Nat} {f : FuncId} {v : Value} {L : List (List UInt8)} (ho : OwnR strE base W v L) (hb : BoxAt W bx f) : some bx ≠ v.ownBlock := by
  intro e
  rcases ho.2 with ⟨rfl, -⟩ | ⟨b, cap, cur, rfl, -, h2, -⟩
  · cases e
  · have e' : bx = b := Option.some.inj e
    subst e'
    unfold BoxAt at hb
    rw [h2] at hb
    injection hb with hb
    injection hb with _ h3
    exact str_func h3
set_option maxHeartbeats 8000000 in
/-- A closure that does a step a word. -/
theorem each_any (fs : FuncId) (hE : ∀ (args : Array Value) (W : World), (callFunc fs args).run Tryd.prog W = .ok (.enter fs args) W) (G : Nat → List (List UInt8)) (w0 w : World) (q : Option Addr) (n c : Nat) (L : List (List UInt8)) (qw : Option Addr) (nw cw bx : Nat) (A : List (List UInt8)) (z : Int)
    (h : RowI w0 w q n c L) (hW : WS w0 qw nw cw A) (hg : Gt w0) (hbx : BoxAt w bx fs) (hG0 : G 0 = L) (hnw : nw ≤ 1048576)
    (hF : ∀ k, k < nw → ∀ W q n c X, RowI w0 W q n c (G k) → X.data.toList = wd A k → Calls Tryd.prog fs #[.slice q n c, .string X] W (StepP w0 W q n c (G (k + 1))))
    (hz : max (((G nw).length : Int) - (n : Int)) ((n : Int) - ((G nw).length : Int)) = z) :
    Calls Tryd.prog 50 #[.slice q n c, .slice qw nw cw, .pointer (some ⟨bx, 0, none⟩)] w (RowD w0 (G nw, int z)) := by
  have HH := Lib.hid (show RowI w0 w q n c (G 0) by rw [hG0]; exact h)
  have HW := Lib.hid hW
  have HG := Lib.hid (fun W (hW : Below w0.heap.size w0 W) => hg.keep hW)
  have HX := Lib.hid hbx
  have HF := Lib.hid hF
  have HZ := Lib.hid hz
  have HNl := Lib.hid h.lm
  have hlm := h.lm
  clear h hW hg hbx hG0 hF hz
  go_enter Tryd.func50, Tryd.ntmps50
  go_wp2_with fail
  go_loopw [0, 14] (fun v i wr => ∃ (k : Nat) (q : Option Addr) (n c : Nat), k ≤ nw ∧ v = .slice q n c ∧ i = .int .i64 (k : Int) ∧ Hid (RowI w0 wr q n c (G k)) ∧ Hid (BoxAt wr bx fs)) (fun _ i _ => nw - (intOf i).toNat)
  case atStart => exact ⟨0, q, n, c, Nat.zero_le _, rfl, rfl, HH, HX⟩
  case round =>
    obtain ⟨k, q1, n1, c1, hk, rfl, rfl, HR, HX1⟩ := hrel
    clear HH HX
    by_cases hlt : k < nw
    · obtain ⟨b, off, rfl, hb, c0⟩ := word_at HW.out HR.out.bl k hlt
      obtain ⟨X, hX, hX2⟩ := str_too (wd A k)
      rw [hX2] at c0
      have CF := Lib.hid (HF.out k hlt wr q1 n1 c1 X HR.out hX)
      have hbc := BoxAt.cell HX1.out
      have k0 : (0 : Int) ≤ (k : Int) := by omega
      have kn : (k : Int) < (nw : Int) := by omega
      clear hb hX hX2
      go_wp2_with fail
      with_reducible refine CF.out.mono ?_
      rintro e w1 ⟨q2, n2, c2, rfl, hs⟩
      have HS := Lib.hid hs.ri
      have HX2 := Lib.hid (show BoxAt w1 bx fs from (hs.ot bx HX1.out.lt (box_apart HR.out.ow HX1.out)).trans HX1.out)
      clear hs CF hbc
      go_wp2_with fail
      go_roundw
      case rel => exact ⟨k + 1, q2, n2, c2, by omega, rfl, by go_num, HS, HX2⟩
      case measure => simp [intOf]; omega
    · obtain rfl : k = nw := by omega
      have hl1 := HR.out.ln
      have hm1 := HR.out.lm
      have hmx : max ((n1 : Int) - (n : Int)) ((n : Int) - (n1 : Int)) = z := by rw [← hl1]; exact HZ.out
      have hzb : -1048576 ≤ z ∧ z ≤ 1048576 := by omega
      have C := Lib.hid (int_any z wr (by omega) (by omega) (HG.out wr HR.out.bl))
      clear HF HX1 HG HZ hl1 hlt
      go_wp2_with fail
      with_reducible refine C.out.mono ?_
      rintro e w2 ⟨v, rfl, hA, hb⟩
      have HE := Lib.hid (rowD_of HR.out hA hb)
      clear hA hb
      go_wp2_with fail
      go_ret2
      exact HE.out

end Go.Proofs.YtmdkegamfjkfbaaDoor.SetM
