/-
  The landed code of layer 11: Do, of any of its commands; what the laws ask of this layer.
-/
import Derived.Test.YthiaflnlmabikaaDoorTxtAllA
import Derived.Test.YthiaflnlmabikaaDoorTxtAllB
namespace Go.Proofs.YthiaflnlmabikaaDoor.TxtM
open Go.RowKit Kit StrT RowG BOrd ValT StoT ReplyT ReplyMath ValM BytesIn DoT Low MapT LstT TxtT NumL NumW ReplyM
set_option linter.unusedVariables false
set_option maxRecDepth 100000

theorem kinds (d : V) : (d.kind = 0 ∨ d.kind = 1) ∨ (d.kind ≠ 0 ∧ d.kind ≠ 1) := by omega
theorem doD_wrong {i : Nat} {d : V} {L : List (List UInt8)} (h : d.kind ≠ 0 ∧ d.kind ≠ 1) : doD i d L = (d, eWrong) := if_neg (by omega)
theorem doD_right {i : Nat} {d : V} {L : List (List UInt8)} (h : d.kind = 0 ∨ d.kind = 1) : doD i d L = deedD i d L := if_pos h
theorem do_any (i : Nat) (hi : i < 6) (p : PV) (q : Option Addr) (L : List (List UInt8)) (n c : Nat) (w : World) (hp : p.In w) (hS : p.S.size ≤ 1048576) (hg : Gd w) (hn : L.length = n) (hm : needD i ≤ n) (hs : StrT.Ss w q L) (hw : ∀ j, (wd L j).length ≤ 140737488351232) (hnm : nmL L = nameD i) :
    Calls Tryd.prog 12 #[p.agg, .slice q n c] w (DoP (fun _ => False) (doD i p.d L).1 (doD i p.d L).2 w) := by
  have h2 : 2 ≤ needD i := by unfold needD; split <;> omega
  have h2i : (2 : Int) ≤ (n : Int) := by omega
  rcases kinds p.d with hk | hk
  · rw [doD_right hk]
    match i, hi with
    | 0, _ => exact do_get p q L n c w hp hS hg hn (by omega) hs hw hnm hk
    | 1, _ => exact do_getDel p q L n c w hp hS hg hn (by omega) hs hw hnm hk
    | 2, _ => exact do_join p q L n c w hp hS hg hn hm hs hw hnm hk
    | 3, _ => exact do_length p q L n c w hp hS hg hn (by omega) hs hw hnm hk
    | 4, _ => exact do_incrBy p q L n c w hp hS hg hn hm hs hw hnm hk
    | 5, _ => exact do_incr p q L n c w hp hS hg hn (by omega) hs hw hnm hk
  · rw [doD_wrong hk]
    match i, hi with
    | 0, _ => exact do_wrong nGet 2 32 (fun Z => by kernel_rfl) p q L n c w hp hS hg hn (by omega) h2i hs hw hnm hk
    | 1, _ => exact do_wrong nGetdel 2 33 (fun Z => by kernel_rfl) p q L n c w hp hS hg hn (by omega) h2i hs hw hnm hk
    | 2, _ => exact do_wrong nAppend 3 34 (fun Z => by kernel_rfl) p q L n c w hp hS hg hn (by omega) (by have : 3 ≤ n := hm; omega) hs hw hnm hk
    | 3, _ => exact do_wrong nStrlen 2 35 (fun Z => by kernel_rfl) p q L n c w hp hS hg hn (by omega) h2i hs hw hnm hk
    | 4, _ => exact do_wrong nIncrby 3 36 (fun Z => by kernel_rfl) p q L n c w hp hS hg hn (by omega) (by have : 3 ≤ n := hm; omega) hs hw hnm hk
    | 5, _ => exact do_wrong nIncr 2 37 (fun Z => by kernel_rfl) p q L n c w hp hS hg hn (by omega) h2i hs hw hnm hk
/-- Two words, three words, in a block of their own. -/
theorem ss2_new (w : World) (a b : ByteArray) : StrT.Ss (w.alloc (.cells #[.string a, .string b] 9)) (some ⟨w.heap.size, 0, none⟩) [a.data.toList, b.data.toList] := by
  intro _
  refine ⟨w.heap.size, 0, rfl, by simp, fun j hj => ?_⟩
  match j, hj with
  | 0, _ => simp [World.cell?_alloc_mark]
  | 1, _ => simp [World.cell?_alloc_mark]
  | j + 2, hj => exact absurd (show j + 2 < 2 from hj) (by omega)
theorem ss3_new (w : World) (a b c : ByteArray) : StrT.Ss (w.alloc (.cells #[.string a, .string b, .string c] 9)) (some ⟨w.heap.size, 0, none⟩) [a.data.toList, b.data.toList, c.data.toList] := by
  intro _
  refine ⟨w.heap.size, 0, rfl, by simp, fun j hj => ?_⟩
  match j, hj with
  | 0, _ => simp [World.cell?_alloc_mark]
  | 1, _ => simp [World.cell?_alloc_mark]
  | 2, _ => simp [World.cell?_alloc_mark]
  | j + 3, hj => exact absurd (show j + 3 < 3 from hj) (by omega)
theorem wd_le {L : List (List UInt8)} {m : Nat} (h : ∀ s ∈ L, s.length ≤ m) (j : Nat) : (wd L j).length ≤ m := by
  unfold wd
  rw [List.getD_eq_getElem?_getD]
  rcases Nat.lt_or_ge j L.length with hj | hj
  · rw [List.getElem?_eq_getElem hj]
    exact h _ (List.getElem_mem hj)
  · rw [List.getElem?_eq_none hj]
    simp
/-- A value that was answered, and a reply, told from the world ahead of the words. -/
def DoW (d : V) (l : List UInt8) (w : World) (e : Ending) (w' : World) : Prop :=
  ∃ (p : PV) (vr : Value), e = .returned (.tuple #[p.agg, vr]) ∧ p.In w' ∧ p.d = d ∧ p.S.data.toList = d.s ∧ Ans w.heap.size w' vr l ∧ Below w.heap.size w w'
theorem doP_w {R : Nat → Prop} {d : V} {l : List UInt8} {w : World} {o : Obj} {e : Ending} {w' : World} (h : DoP R d l (w.alloc o) e w') : DoW d l w e w' := by
  obtain ⟨p, vr, he, hI, hd, -, hA, hb⟩ := h
  exact ⟨p, vr, he, hI, hd, by rw [← hd]; exact VIn.es hI, hA.base (by simp), ((Below.refl _ _).alloc (Nat.le_refl _) _).trans (hb.mono (by simp))⟩
theorem call2 (i : Nat) (nm kk : ByteArray) (hi : i < 6) (h2 : needD i ≤ 2) (hnm : lowL nm.data.toList = nameD i) (hz : nm.size ≤ 140737488351232 ∧ kk.size ≤ 140737488351232) (p : PV) (w : World) (hp : p.In w) (hS : p.S.size ≤ 1048576) (hg : Gd w) :
    Calls Tryd.prog 12 #[p.agg, .slice (some ⟨w.heap.size, 0, none⟩) 2 2] (w.alloc (.cells #[.string nm, .string kk] 9)) (DoW (doD i p.d [nm.data.toList, kk.data.toList]).1 (doD i p.d [nm.data.toList, kk.data.toList]).2 w) := by
  refine (do_any i hi p _ [nm.data.toList, kk.data.toList] 2 2 _ (pv_keep hp (Kit.below1 _ _)) hS (hg.keep (Kit.below1 _ _)) rfl h2 (ss2_new w nm kk) (wd_le (fun s hs => ?_)) hnm).mono (fun e w' h => doP_w h)
  simp only [List.mem_cons, List.not_mem_nil, or_false] at hs
  rcases hs with rfl | rfl <;> rw [str_len] <;> omega
theorem call3 (i : Nat) (nm kk x : ByteArray) (hi : i < 6) (hnm : lowL nm.data.toList = nameD i) (hz : nm.size ≤ 140737488351232 ∧ kk.size ≤ 140737488351232) (hx : x.size ≤ 140737488351232) (p : PV) (w : World) (hp : p.In w) (hS : p.S.size ≤ 1048576) (hg : Gd w) :
    Calls Tryd.prog 12 #[p.agg, .slice (some ⟨w.heap.size, 0, none⟩) 3 3] (w.alloc (.cells #[.string nm, .string kk, .string x] 9)) (DoW (doD i p.d [nm.data.toList, kk.data.toList, x.data.toList]).1 (doD i p.d [nm.data.toList, kk.data.toList, x.data.toList]).2 w) := by
  refine (do_any i hi p _ [nm.data.toList, kk.data.toList, x.data.toList] 3 3 _ (pv_keep hp (Kit.below1 _ _)) hS (hg.keep (Kit.below1 _ _)) rfl (by unfold needD; split <;> omega) (ss3_new w nm kk x) (wd_le (fun s hs => ?_)) hnm).mono (fun e w' h => doP_w h)
  simp only [List.mem_cons, List.not_mem_nil, or_false] at hs
  rcases hs with rfl | rfl | rfl <;> rw [str_len] <;> omega
/-- 'string(b)' of what was answered, in whatever world that keeps it. -/
theorem ans_text {base : Nat} {w : World} {v : Value} {l : List UInt8} (h : Ans base w v l) (N : Nat) (hN : l.length = N) (X : ByteArray) (hX : X.data.toList = l) :
    ∃ p c, v = .slice p N c ∧ ∀ W, Below w.heap.size w W → (convert 29 9 (.slice p N c)).run Tryd.prog W = .ok (.string X) W := by
  subst hN
  obtain ⟨p, c, rfl, hB, -⟩ := h
  obtain rfl : X = ⟨l.toArray⟩ := same_bytes hX
  exact ⟨p, c, rfl, fun W hW => bs_string (hB.keep hW) _ c rfl⟩
/-- A value that lies in a block of its own. -/
structure VB (w : World) (g : Nat) (p : PV) : Prop where
  hp : w.heap[g]? = some (.cells #[.int .u8 p.k, .string p.S, .slice p.ql p.nl p.cl, .slice p.qh p.nh p.ch, .slice p.qz p.nz p.cz] 26 (0, 0))
  pv : p.In w
theorem VB.lt {w : World} {g : Nat} {p : PV} (h : VB w g p) : g < w.heap.size := (Array.getElem?_eq_some_iff.1 h.hp).1
theorem VB.keep {w w' : World} {g : Nat} {p : PV} (h : VB w g p) (hb : Below w.heap.size w w') : VB w' g p := ⟨(hb.block g h.lt).trans h.hp, pv_keep h.pv hb⟩
theorem VB.new {w : World} {p : PV} (h : p.In w) : VB (w.alloc (.cells #[.int .u8 p.k, .string p.S, .slice p.ql p.nl p.cl, .slice p.qh p.nh p.ch, .slice p.qz p.nz p.cz] 26)) w.heap.size p := ⟨heap_alloc_last w _, pv_keep h (Kit.below1 w _)⟩
theorem VB.room {w : World} {g : Nat} {p : PV} (h : VB w g p) : VCells w g (.int .u8 p.k) (.string p.S) (.slice p.ql p.nl p.cl) (.slice p.qh p.nh p.ch) (.slice p.qz p.nz p.cz) := VCells.of h.hp

end Go.Proofs.YthiaflnlmabikaaDoor.TxtM
