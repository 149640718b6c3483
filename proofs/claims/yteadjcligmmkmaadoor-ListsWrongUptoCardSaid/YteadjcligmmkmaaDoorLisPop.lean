/-
  The landed code of layer 12: what is taken from a row, and its parts.
-/
import Derived.Test.YteadjcligmmkmaaDoorLisDo
namespace Go.Proofs.YteadjcligmmkmaaDoor.LisM
open Go.RowKit Kit StrT RowG BOrd ValT StoT ReplyT ReplyMath ValM BytesIn DoT LisT NumL NumW ReplyM
set_option linter.unusedVariables false
set_option maxRecDepth 100000

theorem wd_at {L : List (List UInt8)} {j : Nat} (h : j < L.length) : wd L j = L[j] := by
  unfold wd
  rw [List.getD_eq_getElem?_getD, List.getElem?_eq_getElem h]
  rfl
theorem ss_at {w : World} {q : Option Addr} {L : List (List UInt8)} (h : StrT.Ss w q L) (j : Nat) (hj : j < L.length) : ∃ b off S, q = some ⟨b, off, none⟩ ∧ b < w.heap.size ∧ w.cell? ⟨b, off + j, none⟩ = some (.string S) ∧ S.data.toList = wd L j := by
  obtain ⟨b, off, e, hlt, hc⟩ := h (by omega)
  exact ⟨b, off, ⟨L[j].toArray⟩, e, hlt, hc j hj, by rw [wd_at hj]⟩
theorem ss_word {w : World} {q : Option Addr} {L : List (List UInt8)} (h : StrT.Ss w q L) (j : Nat) (hj : j < L.length) : ∃ b off, q = some ⟨b, off, none⟩ ∧ b < w.heap.size ∧ w.cell? ⟨b, off + j, none⟩ = some (.string ⟨(wd L j).toArray⟩) := by
  obtain ⟨b, off, e, hlt, hc⟩ := h (by omega)
  exact ⟨b, off, e, hlt, by rw [hc j hj, wd_at hj]⟩
theorem popR_some {L : List (List UInt8)} {j : Nat} {S : ByteArray} (h : 0 < L.length) (hS : S.data.toList = wd L j) : popR L j = bulk S.data.toList := by
  unfold popR
  rw [if_neg (by intro e; rw [e] at h; simp at h), hS]
theorem partAt_blk {p : Option Addr} {c lo : Nat} {B : Nat} (h : ∀ a, p = some a → B ≤ a.block) : ∀ a, StrT.partAt p c lo = some a → B ≤ a.block := by
  intro a ha
  unfold StrT.partAt at ha
  split at ha
  · exact h a ha
  · cases p with
    | none => simp at ha
    | some x =>
      simp at ha
      subst ha
      unfold Addr.add
      split <;> exact h x rfl
theorem partAt_none {p : Option Addr} {c lo : Nat} (h : p = none → c = 0) : StrT.partAt p c lo = none → c = 0 := by
  intro e
  unfold StrT.partAt at e
  split at e
  · exact h e
  · cases p with
    | none => exact h rfl
    | some x => simp at e

set_option maxHeartbeats 4000000 in
theorem first_none (w0 w : World) (ql : Option Addr) (cl : Nat) (qw : Option Addr) (nw cw : Nat) (A : List (List UInt8)) (h : RowI w0 w ql 0 cl [] qw nw cw A) :
    Calls Tryd.prog 36 #[.slice ql 0 cl, .slice qw nw cw] w (RowD w0.heap.size w0 ([], null)) := by
  have C := Lib.hid (null_any w h.g.gt)
  have HB := Lib.hid h.bl
  clear h
  go_enter Tryd.func36, Tryd.ntmps36
  go_wp2_with fail
  with_reducible refine C.out.mono ?_
  rintro e w1 ⟨vr, rfl, hA, hb⟩
  go_wp2_with fail
  go_ret2
  exact ⟨none, 0, 0, vr, rfl, rfl, by omega, by omega, fun _ => rfl, fun h => absurd h (by simp), fun a ha => (by cases ha), hA.base HB.out.size, HB.out.trans (hb.mono HB.out.size)⟩
set_option maxHeartbeats 4000000 in
theorem last_none (w0 w : World) (ql : Option Addr) (cl : Nat) (qw : Option Addr) (nw cw : Nat) (A : List (List UInt8)) (h : RowI w0 w ql 0 cl [] qw nw cw A) :
    Calls Tryd.prog 37 #[.slice ql 0 cl, .slice qw nw cw] w (RowD w0.heap.size w0 ([], null)) := by
  have C := Lib.hid (null_any w h.g.gt)
  have HB := Lib.hid h.bl
  clear h
  go_enter Tryd.func37, Tryd.ntmps37
  go_wp2_with fail
  with_reducible refine C.out.mono ?_
  rintro e w1 ⟨vr, rfl, hA, hb⟩
  go_wp2_with fail
  go_ret2
  exact ⟨none, 0, 0, vr, rfl, rfl, by omega, by omega, fun _ => rfl, fun h => absurd h (by simp), fun a ha => (by cases ha), hA.base HB.out.size, HB.out.trans (hb.mono HB.out.size)⟩

set_option maxHeartbeats 4000000 in
theorem first_any (w0 w : World) (ql : Option Addr) (nl cl : Nat) (L : List (List UInt8)) (qw : Option Addr) (nw cw : Nat) (A : List (List UInt8)) (h : RowI w0 w ql nl cl L qw nw cw A) (ht : Tame 2 L A) (hz : L.length ≤ 1048576) :
    Calls Tryd.prog 36 #[.slice ql nl cl, .slice qw nw cw] w (RowD w0.heap.size w0 (rowD 2 L A)) := by
  obtain ⟨hn, h1, h2, h3, h4, h5⟩ := h.row
  rcases Nat.eq_zero_or_pos nl with h0 | h0
  · subst h0
    obtain rfl : L = [] := List.eq_nil_of_length_eq_zero hn
    exact first_none w0 w ql cl qw nw cw A h
  · obtain ⟨b, off, S, e, hlt, hc, hS⟩ := ss_at h4 0 (by omega)
    have hD : StrT.Ss w (StrT.partAt ql cl 1) (L.drop 1) := StrT.Ss.drop h4 1 (by omega) cl (by omega)
    have hpb := partAt_blk (c := cl) (lo := 1) h5
    have hpn := partAt_none (lo := 1) h3
    have hSz : S.size ≤ 1048576 := by rw [← str_len, hS, wd_at (by omega)]; exact ht _ (List.getElem_mem _)
    have HR := Lib.hid (show rowD 2 L A = (L.drop 1, bulk S.data.toList) by show (L.drop 1, popR L 0) = _; rw [popR_some (by omega) hS])
    have C := Lib.hid (fun W (hW : Below w.heap.size w W) => bulk_any S W hSz (h.g.keep hW).gt)
    obtain ⟨p1, hp1⟩ : ∃ p1, p1 = StrT.partAt ql cl 1 := ⟨_, rfl⟩
    have s1 : ∀ W, (Instr.slice 22 (.slice ql nl cl) (some (.int .i64 1)) none none).run Tryd.prog W = .ok (.slice p1 (nl - 1) (cl - 1)) W := fun W => by
      rw [hp1]
      exact StrT.sl_l ql nl cl 1 (by omega) h1 W
    rw [← hp1] at hD hpb hpn
    have H := Lib.hid (show (L.drop 1).length = nl - 1 ∧ nl - 1 ≤ cl - 1 ∧ cl - 1 ≤ 9223372036854775807 ∧ (p1 = none → cl - 1 = 0) ∧ (∀ a, p1 = some a → w0.heap.size ≤ a.block) from ⟨by rw [List.length_drop, hn], by omega, by omega, fun h => by have := hpn h; omega, hpb⟩)
    have HS := Lib.hid (fun W (hW : Below w.heap.size w W) => hD.keep hW)
    have HB := Lib.hid h.bl
    subst e
    rw [Nat.add_zero] at hc
    have n0 : (0 : Int) < (nl : Int) := by omega
    have nz : ((nl : Int) == 0) = false := by rw [beq_eq_false_iff_ne]; omega
    have n1 : (1 : Int) ≤ (nl : Int) := by omega
    clear h ht hz hn h1 h2 h3 h4 h5 hD hpb hpn hS hSz hp1 hlt
    go_enter Tryd.func36, Tryd.ntmps36
    go_wp2_with fail
    go_region_law (first
      | (go_simp; (with_reducible refine (C.out _ (by first | exact Below.refl _ _ | exact (Below.refl _ _).drew)).mono ?_); rintro e w4 ⟨vr, rfl, hA, hb4⟩; dsimp only
         have hb4' : Below w.heap.size w w4 := by first | exact hb4 | exact (Below.refl w.heap.size w).drew.trans hb4
         have HA4 := Lib.hid (show Ans w.heap.size w4 vr _ from hA)
         clear hA hb4))
    all_goals
      go_wp2_with fail
      go_ret2
      obtain ⟨h1, h2, h3, h4, h5⟩ := H.out
      rw [HR.out]
      exact ⟨p1, nl - 1, cl - 1, vr, rfl, h1, h2, h3, h4, HS.out _ hb4', h5, HA4.out.base HB.out.size, HB.out.trans (hb4'.mono HB.out.size)⟩

set_option maxHeartbeats 4000000 in
theorem last_any (w0 w : World) (ql : Option Addr) (nl cl : Nat) (L : List (List UInt8)) (qw : Option Addr) (nw cw : Nat) (A : List (List UInt8)) (h : RowI w0 w ql nl cl L qw nw cw A) (ht : Tame 3 L A) (hz : L.length ≤ 1048576) :
    Calls Tryd.prog 37 #[.slice ql nl cl, .slice qw nw cw] w (RowD w0.heap.size w0 (rowD 3 L A)) := by
  obtain ⟨hn, h1, h2, h3, h4, h5⟩ := h.row
  rcases Nat.eq_zero_or_pos nl with h0 | h0
  · subst h0
    obtain rfl : L = [] := List.eq_nil_of_length_eq_zero hn
    exact last_none w0 w ql cl qw nw cw A h
  · obtain ⟨m, rfl⟩ : ∃ m, nl = m + 1 := ⟨nl - 1, by omega⟩
    obtain ⟨b, off, S, e, hlt, hc, hS⟩ := ss_at h4 m (by omega)
    have hD : StrT.Ss w (StrT.partAt ql cl 0) (L.take m) := StrT.partAt_ss h4 (by omega) m
    rw [StrT.partAt_nought] at hD
    have s1 : ∀ W, (Instr.slice 22 (.slice ql (m + 1) cl) none (some (.int .i64 (m : Int))) none).run Tryd.prog W = .ok (.slice ql m cl) W := fun W => by
      have := StrT.sl_hs ql (m + 1) cl m (by omega) W
      rw [StrT.partAt_nought] at this
      exact this
    have hSz : S.size ≤ 1048576 := by rw [← str_len, hS, wd_at (by omega)]; exact ht _ (List.getElem_mem _)
    have HR := Lib.hid (show rowD 3 L A = (L.take m, bulk S.data.toList) by show (L.take (L.length - 1), popR L (L.length - 1)) = _; rw [popR_some (S := S) (by omega) (by rw [hn]; exact hS), hn]; rfl)
    have C := Lib.hid (fun W (hW : Below w.heap.size w W) => bulk_any S W hSz (h.g.keep hW).gt)
    have H := Lib.hid (show (L.take m).length = m ∧ m ≤ cl ∧ cl ≤ 9223372036854775807 ∧ (ql = none → cl = 0) ∧ (∀ a, ql = some a → w0.heap.size ≤ a.block) from ⟨by rw [List.length_take, hn]; omega, by omega, h2, h3, h5⟩)
    have HS := Lib.hid (fun W (hW : Below w.heap.size w W) => hD.keep hW)
    have HB := Lib.hid h.bl
    subst e
    have m0 : (0 : Int) ≤ (m : Int) := by omega
    have nz : ((m : Int) + 1 == 0) = false := by rw [beq_eq_false_iff_ne]; omega
    have n1 : (m : Int) < (m : Int) + 1 := by omega
    have hm : (m : Int) ≤ 1048576 := by omega
    clear h ht hz hn h1 h2 h3 h4 h5 hD hS hSz hlt h0
    go_enter Tryd.func37, Tryd.ntmps37
    go_wp2_with fail
    go_region_law (first
      | (go_simp; (with_reducible refine (C.out _ (by first | exact Below.refl _ _ | exact (Below.refl _ _).drew)).mono ?_); rintro e w4 ⟨vr, rfl, hA, hb4⟩; dsimp only
         have hb4' : Below w.heap.size w w4 := by first | exact hb4 | exact (Below.refl w.heap.size w).drew.trans hb4
         have HA4 := Lib.hid (show Ans w.heap.size w4 vr _ from hA)
         clear hA hb4))
    all_goals
      go_wp2_with fail
      go_ret2
      obtain ⟨h1, h2, h3, h4, h5⟩ := H.out
      rw [HR.out]
      exact ⟨_, m, cl, vr, rfl, h1, h2, h3, h4, HS.out _ hb4', h5, HA4.out.base HB.out.size, HB.out.trans (hb4'.mono HB.out.size)⟩

theorem err_to (s : ByteArray) (l : List UInt8) (hs : s.data.toList = l) (hl : l.length ≤ 1048576) (W : World) (hg : Gt W) : Calls Tryd.prog 27 #[.string s] W (Gives (err l) W) := by
  subst hs
  exact err_any s W (by rw [← str_len]; exact hl) hg
theorem sl_lh (p : Option Addr) (n c x y : Nat) (h1 : x ≤ y) (h2 : y ≤ c) (W : World) :
    (Instr.slice 22 (.slice p n c) (some (.int .i64 (x : Int))) (some (.int .i64 (y : Int))) none).run Tryd.prog W = .ok (.slice (StrT.partAt p c x) (y - x) (c - x)) W := by
  rw [run_slice_lh (P := Tryd.prog) W 22 p n c StrT.elem_str .i64 .i64 (x : Int) (y : Int) (by omega) (by omega) (by omega), StrT.size_str]
  simp [Result.andThen, sliced, StrT.partAt]

set_option maxHeartbeats 4000000 in
theorem span_any (w0 w : World) (ql : Option Addr) (nl cl : Nat) (L : List (List UInt8)) (qw : Option Addr) (nw cw : Nat) (A : List (List UInt8)) (h : RowI w0 w ql nl cl L qw nw cw A) (ht : Tame 5 L A) (hz : L.length ≤ 1048576) :
    Calls Tryd.prog 39 #[.slice ql nl cl, .slice qw nw cw] w (RowD w0.heap.size w0 (rowD 5 L A)) := by
  obtain ⟨hn, h1, h2, h3, h4, h5⟩ := h.row
  obtain ⟨t1, t2, t3, t4, t5⟩ : 2 ≤ A.length ∧ L.length ≤ 4096 ∧ L.flatten.length ≤ 1048576 ∧ (wd A 0).length ≤ 281474976710656 ∧ (wd A 1).length ≤ 281474976710656 := ht
  obtain ⟨b, off, S, e, hlt, hc0, hS⟩ := ss_at h.ws 0 (by omega)
  obtain ⟨b', off', T, e', -, hc1, hT⟩ := ss_at h.ws 1 (by omega)
  rw [e] at e'
  injection e' with e'
  injection e' with e1 e2
  subst e1 e2
  rw [Nat.add_zero] at hc0
  have hwn := h.wn
  obtain ⟨x, y, hx, hy, hxy, hyn⟩ := partV_in nl (wd A 0) (wd A 1)
  have CP := Lib.hid (fun W (hW : Below w.heap.size w W) => part_any (nl : Int) S T (by rw [← str_len, hS]; exact t4) (by rw [← str_len, hT]; exact t5) (by omega) (by omega) W (h.g.keep hW))
  rw [hS, hT, hx, hy] at CP
  obtain ⟨ok, hok⟩ : ∃ ok, ok = (partV (nl : Int) (wd A 0) (wd A 1)).2.2 := ⟨_, rfl⟩
  rw [← hok] at CP
  have hPB : partB L (wd A 0) (wd A 1) = ok := by unfold partB; rw [hn, hok]
  have hPL : partL L (wd A 0) (wd A 1) = (L.take y).drop x := by unfold partL; rw [hn, hx, hy]; rfl
  have H := Lib.hid (show L.length = nl ∧ nl ≤ cl ∧ cl ≤ 9223372036854775807 ∧ (ql = none → cl = 0) ∧ (∀ a, ql = some a → w0.heap.size ≤ a.block) from ⟨hn, h1, h2, h3, h5⟩)
  have HB := Lib.hid h.bl
  have HS := Lib.hid (fun W (hW : Below w.heap.size w W) => h4.keep hW)
  have hw2 : (1 : Int) < (nw : Int) := by omega
  have hw1 : (0 : Int) < (nw : Int) := by omega
  have hw3 : 0 < nw := by omega
  have hw4 : 1 < nw := by omega
  have CE := Lib.hid (fun W (hW : Below w.heap.size w W) (s : ByteArray) (hs : s.data.toList = mInt) => err_to s mInt hs (by decide) W (h.g.keep hW).gt)
  have CT := Lib.hid (fun W (hW : Below w.heap.size w W) => texts_sum (StrT.partAt ql cl x) ((L.take y).drop x) (y - x) (cl - x) W (by rw [List.length_drop, List.length_take, hn]; omega) (StrT.Ss.drop ((h4.keep hW).take y) x (by rw [List.length_take, hn]; omega) cl (by rw [List.length_take, hn]; omega)) (by omega) (by omega) (fun hh => by have := partAt_none (lo := x) h3 hh; omega) (by omega) (Nat.le_trans (flat_part L x y) t3) (h.g.keep hW).gt)
  have s1 := fun W => sl_lh ql nl cl x y hxy (by omega) W
  obtain ⟨px, hpx⟩ : ∃ px, px = StrT.partAt ql cl x := ⟨_, rfl⟩
  obtain ⟨cx, hcx⟩ : ∃ cx, cx = cl - x := ⟨_, rfl⟩
  obtain ⟨nx, hnx⟩ : ∃ nx, nx = y - x := ⟨_, rfl⟩
  rw [← hpx, ← hcx, ← hnx] at s1 CT
  subst e
  have HR := Lib.hid (show rowD 5 L A = (L, if ok = true then texts ((L.take y).drop x) else eInt) by rw [← hPL, ← hPB]; rfl)
  clear h hz hn h1 h2 h3 h4 h5 t1 t2 t3 t4 t5 hS hT hx hy hok hPB hPL hpx hcx hnx hlt hwn hxy hyn
  cases ok
  · have HR2 := Lib.hid (show rowD 5 L A = (L, eInt) from HR.out)
    clear HR CT s1
    go_enter Tryd.func39, Tryd.ntmps39
    go_wp2_with fail
    go_region_law (first
      | (go_simp; (with_reducible refine (CP.out _ (by first | exact Below.refl _ _ | exact (Below.refl _ _).drew)).mono ?_); rintro e w4 ⟨rfl, hb4⟩; dsimp only
         have hb4' : Below w.heap.size w w4 := by first | exact hb4 | exact (Below.refl w.heap.size w).drew.trans hb4
         clear hb4))
    all_goals
      go_wp2_with fail
      (with_reducible refine (CE.out _ hb4' _ ?_).mono ?_)
      (exact rfl)
      rintro e w5 ⟨vr, rfl, hA, hb5⟩
      go_wp2_with fail
      go_ret2
      have hb := hb4'.trans (hb5.mono hb4'.size)
      obtain ⟨h1, h2, h3, h4, h5⟩ := H.out
      rw [HR2.out]
      exact ⟨ql, nl, cl, vr, rfl, h1, h2, h3, h4, HS.out _ hb, h5, hA.base (Nat.le_trans HB.out.size hb4'.size), HB.out.trans (hb.mono HB.out.size)⟩
  · have HR2 := Lib.hid (show rowD 5 L A = (L, texts ((L.take y).drop x)) from HR.out)
    clear HR CE
    go_enter Tryd.func39, Tryd.ntmps39
    go_wp2_with fail
    go_region_law (first
      | (go_simp; (with_reducible refine (CP.out _ (by first | exact Below.refl _ _ | exact (Below.refl _ _).drew)).mono ?_); rintro e w4 ⟨rfl, hb4⟩; dsimp only
         have hb4' : Below w.heap.size w w4 := by first | exact hb4 | exact (Below.refl w.heap.size w).drew.trans hb4
         clear hb4))
    all_goals
      go_wp2_with fail
      (with_reducible refine (CT.out _ hb4').mono ?_)
      rintro e w5 ⟨vr, rfl, hA, hb5⟩
      go_wp2_with fail
      go_ret2
      have hb := hb4'.trans (hb5.mono hb4'.size)
      obtain ⟨h1, h2, h3, h4, h5⟩ := H.out
      rw [HR2.out]
      exact ⟨ql, nl, cl, vr, rfl, h1, h2, h3, h4, HS.out _ hb, h5, hA.base (Nat.le_trans HB.out.size hb4'.size), HB.out.trans (hb.mono HB.out.size)⟩

/-- A row as a value. -/
def pvL (q : Option Addr) (n c : Nat) (L : List (List UInt8)) : PV := ⟨2, ⟨#[]⟩, q, n, c, none, 0, 0, none, 0, 0, ⟨2, [], L, [], []⟩⟩
theorem pvL_in {w : World} {q : Option Addr} {n c : Nat} {L : List (List UInt8)} (hn : L.length = n) (h1 : n ≤ c) (h2 : c ≤ 9223372036854775807) (h3 : q = none → c = 0) (h4 : StrT.Ss w q L) (hz : n ≤ 1048576) : (pvL q n c L).In w :=
  ⟨rfl, by simp [pvL], rfl, rs_ss.2 h4, Rs.nil _ _ _, Rs.nil _ _ _, hn, rfl, rfl, hz, by simp [pvL], by simp [pvL], h1, by simp [pvL], by simp [pvL], h2, by simp [pvL], by simp [pvL], h3, fun _ => rfl, fun _ => rfl⟩
set_option maxHeartbeats 4000000 in
theorem list_any (q : Option Addr) (n c : Nat) (L : List (List UInt8)) (w : World) (hn : L.length = n) (h1 : n ≤ c) (h2 : c ≤ 9223372036854775807) (h3 : q = none → c = 0) (h4 : StrT.Ss w q L) (hz : n ≤ 1048576) :
    Calls Tryd.prog 28 #[.slice q n c] w fun e w' => ∃ p : PV, e = .returned p.agg ∧ p.In w' ∧ p.d = listV L ∧ (∀ j, p.at_ j → ∃ a, q = some a ∧ a.block = j) ∧ Below w.heap.size w w' := by
  rcases Nat.eq_zero_or_pos n with h0 | h0
  · subst h0
    obtain rfl : L = [] := List.eq_nil_of_length_eq_zero hn
    have HCs := Lib.hid (show (Tryd.prog.info? 26).map (·.size) = some (#[.int .u8 0, .string ⟨#[]⟩, .slice none 0 0, .slice none 0 0, .slice none 0 0] : Array Value).size from val_size)
    clear hn h1 h2 h3 h4 hz
    go_enter Tryd.func28, Tryd.ntmps28
    go_wp2_with fail
    exact bodyPost_ret (results_cell_row rfl _ _ w.heap.size 26 #[.int .u8 0, .string ⟨#[]⟩, .slice none 0 0, .slice none 0 0, .slice none 0 0] (0, 0) _ rfl (heap_alloc_last w _) Tryd.underlying26 rfl HCs.out) rfl ⟨pv0, rfl, pv0_in _, rfl, fun j hj => absurd hj (pv0_at j), (Below.refl _ _).alloc (Nat.le_refl _) _⟩
  · have HCs := Lib.hid (show (Tryd.prog.info? 26).map (·.size) = some (#[.int .u8 2, .string ⟨#[]⟩, .slice q n c, .slice none 0 0, .slice none 0 0] : Array Value).size from val_size)
    have HI := Lib.hid (fun W (hW : Below w.heap.size w W) => pvL_in hn h1 h2 h3 (h4.keep hW) hz)
    have HL := Lib.hid (show (pvL q n c L).d = listV L from (listV_some (by omega)).symm)
    have nz : ((n : Int) == 0) = false := by rw [beq_eq_false_iff_ne]; omega
    have nz2 : ¬ (n : Int) = 0 := by omega
    clear hn h1 h2 h3 h4 hz
    go_enter Tryd.func28, Tryd.ntmps28
    go_wp2_with fail
    exact bodyPost_ret (results_cell_row rfl _ _ w.heap.size 26 #[.int .u8 2, .string ⟨#[]⟩, .slice q n c, .slice none 0 0, .slice none 0 0] (0, 0) _ rfl (heap_alloc_last w _) Tryd.underlying26 rfl HCs.out) rfl ⟨pvL q n c L, rfl, HI.out _ (Kit.below1 _ _), HL.out, fun j hj => by
      unfold PV.at_ pvL at hj
      simp at hj
      obtain ⟨-, a, e, rfl⟩ := hj
      exact ⟨a, e, rfl⟩, (Below.refl _ _).alloc (Nat.le_refl _) _⟩

end Go.Proofs.YteadjcligmmkmaaDoor.LisM
