/-
  Layer 5's parts of Take: reply.piece, the reply that a row begins with, of an array its line alone.
-/
import Derived.Test.YteojijocoamohaaDoorReplyBody
import Derived.BigQuiet
import Derived.Deep.QuietTactic
import Derived.Lib.QuietBelow
namespace Go.Proofs.YteojijocoamohaaDoor.ReplyM
open Go.RowKit Kit BytesIn ReplyMath ReplyT NumMath NumL BytesA
open Go.Sort (grow)
set_option linter.unusedVariables false
set_option maxRecDepth 100000

def PieceP (n : Nat) (o : Option (List UInt8 × Nat)) (w : World) (e : Ending) (w' : World) : Prop :=
  Below w.heap.size w w' ∧ match o with
  | none => ∃ x y : Int, e = .returned (.tuple #[.int .i64 x, .int .i64 y, .bool false])
  | some p => e = .returned (.tuple #[.int .i64 ((n : Int) - (p.1.length : Int)), .int .i64 (p.2 : Int), .bool true])
theorem piece_no {n : Nat} {o : Option (List UInt8 × Nat)} {w w' : World} (x y : Int) (h : o = none) (hb : Below w.heap.size w w') : PieceP n o w (.returned (.tuple #[.int .i64 x, .int .i64 y, .bool false])) w' := by
  subst h
  exact ⟨hb, x, y, rfl⟩
theorem piece_yes {n : Nat} {o : Option (List UInt8 × Nat)} {w w' : World} (x y : Int) (t : List UInt8) (m : Nat) (h : o = some (t, m)) (hx : x + (t.length : Int) = (n : Int)) (hy : y = (m : Int)) (hb : Below w.heap.size w w') : PieceP n o w (.returned (.tuple #[.int .i64 x, .int .i64 y, .bool true])) w' := by
  subst h hy
  refine ⟨hb, ?_⟩
  show Ending.returned (.tuple #[.int .i64 x, .int .i64 (m : Int), .bool true]) = .returned (.tuple #[.int .i64 ((n : Int) - (t.length : Int)), .int .i64 (m : Int), .bool true])
  rw [show (n : Int) - (t.length : Int) = x by omega]

theorem clean_cons (k : UInt8) (s : List UInt8) : clean (k :: s) = ((k != 13 && k != 10) && clean s) := rfl
theorem parse_clean {s : List UInt8} {v : Int} (h : parse s = some v) : clean s = true := by
  rw [← (parse_some h).1]
  unfold clean
  rw [List.all_eq_true]
  intro c hc
  rcases itoa_mem v c hc with h | h
  · rw [h]; decide
  · have h1 : c ≠ 13 := by rintro rfl; exact absurd h.1 (by decide)
    have h2 : c ≠ 10 := by rintro rfl; exact absurd h.1 (by decide)
    simp [h1, h2]
theorem kind_dirty {k : UInt8} {s r : List UInt8} (h : clean (k :: s) = false) : kind k s r = none := by
  rw [clean_cons] at h
  unfold kind
  by_cases h1 : k = 43 ∨ k = 45
  · rw [if_pos h1, if_neg]
    intro hc
    rw [hc] at h
    rcases h1 with rfl | rfl <;> exact absurd h (by decide)
  rw [if_neg h1]
  have hp : k = 58 ∨ k = 36 ∨ k = 42 → parse s = none := by
    intro hk
    cases hp : parse s with
    | none => rfl
    | some v =>
      rw [parse_clean hp] at h
      rcases hk with rfl | rfl | rfl <;> exact absurd h (by decide)
  by_cases h2 : k = 58
  · rw [if_pos h2, hp (Or.inl h2)]
    rfl
  rw [if_neg h2]
  by_cases h3 : k = 36
  · rw [if_pos h3, hp (Or.inr (Or.inl h3))]
    rfl
  rw [if_neg h3]
  by_cases h4 : k = 42
  · rw [if_pos h4, hp (Or.inr (Or.inr h4))]
    rfl
  rw [if_neg h4]
theorem kind_line {k : UInt8} {s r : List UInt8} (h : k = 43 ∨ k = 45) (hc : clean s = true) : kind k s r = some (r, 0) := by unfold kind; rw [if_pos h, if_pos hc]
theorem kind_int {s r : List UInt8} : kind 58 s r = if pB s = true then some (r, 0) else none := by
  unfold kind pB
  rw [if_neg (by decide), if_pos rfl]
theorem kind_bulk {s r : List UInt8} : kind 36 s r = bulkIs s r := by
  unfold kind bulkIs
  rw [if_neg (by decide), if_neg (by decide), if_pos rfl]
theorem bulk_zero {s r t : List UInt8} {m : Nat} (h : bulkIs s r = some (t, m)) : m = 0 := by
  unfold bulkIs at h
  cases hp : parse s with
  | none => rw [hp] at h; cases h
  | some v =>
    rw [hp] at h
    have h : bulkOf v r = some (t, m) := h
    unfold bulkOf at h
    split at h
    · injection h with h; injection h with _ h; exact h.symm
    · split at h
      · injection h with h; injection h with _ h; exact h.symm
      · cases h
theorem kind_arr {s r : List UInt8} : kind 42 s r = if cB s = true then some (r, (cV s).toNat) else none := by
  unfold kind cB cV
  rw [if_neg (by decide), if_neg (by decide), if_neg (by decide), if_pos rfl]
  by_cases hs : s = [45, 49]
  · rw [if_pos hs, if_pos hs, hs, parse_minus]
    rfl
  · rw [if_neg hs, if_neg hs]
    cases hp : parse s with
    | none => rw [pB_no hp]; rfl
    | some v =>
      rw [(pV_of hp).1, (pV_of hp).2, Bool.true_and]
      show arrOf v r = _
      unfold arrOf
      rw [if_neg (by rintro rfl; exact hs (minus_of hp))]
      by_cases h0 : 0 ≤ v
      · rw [if_pos h0, if_pos (decide_eq_true h0)]
      · rw [if_neg h0, if_neg (by rw [decide_eq_false h0]; decide)]
theorem cV_nat {s : List UInt8} (h : cB s = true) : 0 ≤ cV s := by
  unfold cB at h
  unfold cV
  split
  · decide
  · rename_i hs
    rw [if_neg hs, Bool.and_eq_true, decide_eq_true_eq] at h
    exact h.2
theorem kind_odd {k : UInt8} {s r : List UInt8} (h1 : k ≠ 43) (h2 : k ≠ 45) (h3 : k ≠ 58) (h4 : k ≠ 36) (h5 : k ≠ 42) : kind k s r = none := by simp [kind, h1, h2, h3, h4, h5]
theorem byte_eq {k : UInt8} {m : Nat} (c : UInt8) (hc : c.toNat = m) (h : k = c) : ((k.toNat : Int) == (m : Int)) = true := by rw [h, hc, beq_iff_eq]
theorem byte_ne {k : UInt8} (c : UInt8) (m : Int) (hc : (c.toNat : Int) = m) (h : k ≠ c) : ((k.toNat : Int) == m) = false := by
  rw [beq_eq_false_iff_ne, ← hc]
  intro e
  exact h (UInt8.toNat_inj.1 (by omega))
theorem cutV_no (p : Option Addr) (n c : Nat) : Lib.cutV p n c 2 (place none) = .tuple #[.slice p n c, .slice none 0 0, .bool false] := by
  show ite (0 ≤ (-1 : Int)) _ _ = _
  rw [if_neg (by decide)]
theorem cutV_yes (p : Option Addr) (n c : Nat) (a r : List UInt8) : Lib.cutV p n c 2 (place (some (a, r))) = .tuple #[.slice p a.length c, Lib.fromV p n c (a.length + 2), .bool true] := by
  show ite (0 ≤ (a.length : Int)) _ _ = _
  rw [if_pos (by omega)]
  show Value.tuple #[.slice p ((a.length : Int)).toNat c, Lib.fromV p n c (((a.length : Int)).toNat + 2), .bool true] = _
  rw [Int.toNat_natCast]

set_option maxHeartbeats 4000000 in
theorem piece_any (p : Option Addr) (l : List UInt8) (n c : Nat) (w : World) (hn : l.length = n) (hb : Bs w p l) (hc : n ≤ c) (hcm : c ≤ 9223372036854775807) (hz : n ≤ 1048576) (hnil : p = none → c = 0) (hg : Gd w) (hu : Ut w) :
    Calls Tryd.prog 39 #[.slice p n c] w (PieceP n (one l) w) := by
  have hcv := run_const w
  have CU := Lib.hid (cut_any p l n c (some ⟨w.heap.size, 0, none⟩) 2 (w.alloc (.cells (bv [13, 10]).toArray 5 (2, 3))) hn (hb.keep (below1 _ _)) hc hz hnil (lit_bs w [13, 10] _ _) (hu.keep (below1 _ _)))
  have HB0 := Lib.hid (below1 w (.cells (bv [13, 10]).toArray 5 (2, 3)))
  rcases hcut : cutE l with _ | ⟨a, r⟩
  · rw [hcut, cutV_no] at CU
    have HX := Lib.hid (fun W hbw => piece_no (n := n) (o := one l) (w := w) (w' := W) 0 0 (by unfold one; rw [hcut]; rfl) hbw)
    clear hn hb hg hu hcut hnil
    go_enter Tryd.func39, Tryd.ntmps39
    go_wp2_with fail
    refine CU.out.mono ?_
    rintro e w1 ⟨rfl, hb1⟩
    go_wp2_with fail
    go_ret3
    exact HX.out _ (HB0.out.trans (hb1.mono HB0.out.size))
  · rw [hcut, cutV_yes] at CU
    obtain ⟨hl, -⟩ := cutE_some l a r hcut
    have hlen := congrArg List.length hl
    rw [hn, List.length_append, List.length_cons, List.length_cons] at hlen
    obtain ⟨L, hL⟩ : ∃ L, L = a.length := ⟨_, rfl⟩
    obtain ⟨V, hV⟩ : ∃ V, V = Lib.fromV p n c (a.length + 2) := ⟨_, rfl⟩
    rw [← hV, ← hL] at CU
    rw [← hL] at hlen
    have hle1 : L + (r.length + 2) ≤ n := by omega
    have hle2 : n ≤ L + (r.length + 2) := by omega
    clear hlen
    clear hV
    have hone : one l = a.head?.bind fun k => kind k a.tail r := by unfold one; rw [hcut]; rfl
    have hta : l.take L = a := by rw [hl, hL, List.take_left]
    have hdr : l.drop (L + 2) = r := by
      rw [hl, hL, ← List.drop_drop, List.drop_left]
      rfl
    rcases a with _ | ⟨k, s⟩
    · have hL0 : L = 0 := hL
      subst hL0
      have HX := Lib.hid (fun W hbw => piece_no (n := n) (o := one l) (w := w) (w' := W) 0 0 (by rw [hone]; rfl) hbw)
      clear hn hb hg hu hcut hnil hl hone hta hdr hle1 hle2 hL
      go_enter Tryd.func39, Tryd.ntmps39
      go_wp2_with fail
      refine CU.out.mono ?_
      rintro e w1 ⟨rfl, hb1⟩
      go_wp2_with fail
      go_ret3
      exact HX.out _ (HB0.out.trans (hb1.mono HB0.out.size))
    · have HOne := Lib.hid (show one l = kind k s r from hone)
      clear hone
      have hLs1 : s.length + 1 ≤ L := by rw [hL]; exact Nat.le_refl _
      have hLs2 : L ≤ s.length + 1 := by rw [hL]; exact Nat.le_refl _
      have HLk := Lib.hid hL
      have hBa : ∀ W, Below w.heap.size w W → Bs W p (k :: s) := fun W hbw => by
        rw [← hta]
        exact (ReplyT.Bs.take hb L).keep hbw
      have HA := Lib.hid (fun W hbw => has_any ⟨#[13, 10]⟩ rfl p (k :: s) L c W (by rw [hL]) (hBa W hbw) (by omega) (by omega) (hu.keep hbw))
      have d0 : ((L : Int) == 0) = false := by rw [beq_eq_false_iff_ne]; omega
      cases hcl : clean (k :: s) with
      | false =>
        rw [hcl] at HA
        have HX := Lib.hid (fun W hbw => piece_no (n := n) (o := one l) (w := w) (w' := W) 0 0 (by rw [HOne.out]; exact kind_dirty hcl) hbw)
        clear hn hb hg hu hcut hnil hl hta hdr hBa hL
        go_enter Tryd.func39, Tryd.ntmps39
        go_wp2_with fail
        refine CU.out.mono ?_
        rintro e w1 ⟨rfl, hb1⟩
        have hb1' := HB0.out.trans (hb1.mono HB0.out.size)
        clear hb1
        go_wp2_with fail
        refine (HA.out w1 hb1').mono ?_
        rintro e w2 ⟨rfl, hb2⟩
        go_wp2_with fail
        go_ret3
        exact HX.out _ (hb1'.trans (hb2.mono hb1'.size))
      | true =>
        rw [hcl] at HA
        have hcs : clean s = true := by rw [clean_cons, Bool.and_eq_true] at hcl; exact hcl.2
        have HBa := Lib.hid hBa
        have HBl := Lib.hid hb
        have HG := Lib.hid hg
        have HN := Lib.hid hn
        clear hn hb hg hu hcut hl hta hBa hL
        go_enter Tryd.func39, Tryd.ntmps39
        go_wp2_with fail
        refine CU.out.mono ?_
        rintro e w1 ⟨rfl, hb1⟩
        have hb1' := HB0.out.trans (hb1.mono HB0.out.size)
        clear hb1
        go_wp2_with fail
        refine (HA.out w1 hb1').mono ?_
        rintro e w2 ⟨rfl, hb2⟩
        have hbw := hb1'.trans (hb2.mono hb1'.size)
        clear hb1' hb2 hcv CU HA
        obtain ⟨b, off, rfl, hlt, hcell0⟩ := (HBa.out w2 hbw) (by simp)
        have hcell : w2.cell? ⟨b, off, none⟩ = some (.int .u8 (k.toNat : Int)) := hcell0 0 (by simp)
        clear hcell0
        have HBw := Lib.hid hbw
        have hpa : ReplyT.partAt (some ⟨b, off, none⟩) c 1 = some ⟨b, off + 1, none⟩ := by unfold ReplyT.partAt; rw [if_neg (by omega)]; simp [Addr.add_lit]
        have HBs := Lib.hid (fun W (h : Below w.heap.size w W) => (show Bs W (some ⟨b, off + 1, none⟩) s by
          rw [← hpa]
          have h1 := partAt_bs (c := c) (HBa.out W h) (by rw [← HLk.out]; omega) 1 L (by rw [HLk.out]; exact Nat.le_refl _)
          rw [List.drop_one, List.tail_cons, List.take_of_length_le (by omega)] at h1
          exact h1))
        clear hpa
        have hk255 := k.toNat_lt
        by_cases h43 : k = 43
        · have HX := Lib.hid (fun W hbw => piece_yes (n := n) (o := one l) (w := w) (w' := W) ((L : Int) + 2) 0 r 0 (by rw [HOne.out]; exact kind_line (Or.inl h43) hcs) (by omega) rfl hbw)
          have t1 : ((k.toNat : Int) == 43) = true := by rw [h43]; rfl
          clear hcl hbw
          go_wp2_with fail
          go_ret3
          exact HX.out _ HBw.out
        have t1 := byte_ne 43 43 rfl h43
        by_cases h45 : k = 45
        · have HX := Lib.hid (fun W hbw => piece_yes (n := n) (o := one l) (w := w) (w' := W) ((L : Int) + 2) 0 r 0 (by rw [HOne.out]; exact kind_line (Or.inr h45) hcs) (by omega) rfl hbw)
          have t2 : ((k.toNat : Int) == 45) = true := by rw [h45]; rfl
          clear hcl hbw
          go_wp2_with fail
          go_ret3
          exact HX.out _ HBw.out
        have t2 := byte_ne 45 45 rfl h45
        by_cases h58 : k = 58
        · subst h58
          have c1 := bs_string (HBs.out w2 hbw) (L - 1) (c - 1) (by omega)
          have PC := Lib.hid (parse_any ⟨s.toArray⟩ (by rw [size_bytes]; omega) w2 (HG.out.keep hbw))
          rw [show (⟨s.toArray⟩ : ByteArray).data.toList = s from rfl] at PC
          obtain ⟨x, hx⟩ : ∃ x, x = pV s := ⟨_, rfl⟩
          rw [← hx] at PC
          clear hx
          have t3 : (((58 : UInt8).toNat : Int) == 58) = true := rfl
          cases hpb : pB s with
          | false =>
            rw [hpb] at PC
            have HX := Lib.hid (fun W hbw => piece_no (n := n) (o := one l) (w := w) (w' := W) ((L : Int) + 2) 0 (by rw [HOne.out, kind_int, hpb]; rfl) hbw)
            clear hcl hbw hpb
            go_wp2_with fail
            refine PC.out.mono ?_
            rintro e w3 ⟨rfl, hb3⟩
            go_wp2_with fail
            go_ret3
            exact HX.out _ (HBw.out.trans (hb3.mono HBw.out.size))
          | true =>
            rw [hpb] at PC
            have HX := Lib.hid (fun W hbw => piece_yes (n := n) (o := one l) (w := w) (w' := W) ((L : Int) + 2) 0 r 0 (by rw [HOne.out, kind_int, hpb]; rfl) (by omega) rfl hbw)
            clear hcl hbw hpb
            go_wp2_with fail
            refine PC.out.mono ?_
            rintro e w3 ⟨rfl, hb3⟩
            go_wp2_with fail
            go_ret3
            exact HX.out _ (HBw.out.trans (hb3.mono HBw.out.size))
        have t3 := byte_ne 58 58 rfl h58
        by_cases h36 : k = 36
        · subst h36
          have t4 : (((36 : UInt8).toNat : Int) == 36) = true := rfl
          obtain ⟨P2, hP2⟩ : ∃ P2, P2 = ReplyT.partAt (some ⟨b, off, none⟩) c (L + 2) := ⟨_, rfl⟩
          have q2 : ∀ W, (Instr.slice 23 (.slice (some ⟨b, off, none⟩) n c) (some (.int .i64 ((L : Int) + 2))) none none).run Tryd.prog W = .ok (.slice P2 (n - (L + 2)) (c - (L + 2))) W := fun W => by
            have h := sl_l (some ⟨b, off, none⟩) n c (L + 2) (by omega) W
            rw [show ((L + 2 : Nat) : Int) = (L : Int) + 2 by omega, ← hP2] at h
            exact h
          have q1 : ∀ W, (Instr.slice 23 (.slice (some ⟨b, off, none⟩) L c) (some (.int .i64 1)) none none).run Tryd.prog W = .ok (.slice (some ⟨b, off + 1, none⟩) (L - 1) (c - 1)) W := fun W => by
            have h := sl_l (some ⟨b, off, none⟩) L c 1 (by omega) W
            rw [show ReplyT.partAt (some ⟨b, off, none⟩) c 1 = some ⟨b, off + 1, none⟩ by unfold ReplyT.partAt; rw [if_neg (by omega)]; simp [Addr.add_lit]] at h
            exact h
          have HBr := Lib.hid (fun W (h : Below w.heap.size w W) => (show Bs W P2 r by
            have h1 := partAt_bs (c := c) (HBl.out.keep h) (by rw [HN.out]; exact hc) (L + 2) n (by rw [HN.out]; exact Nat.le_refl _)
            rw [hdr, List.take_of_length_le (by omega), ← hP2] at h1
            exact h1))
          have c1 := fun d os => bs_string (HBs.out (grow (redrawn w2 d) os) (hbw.trans ((below_regrown w2 d os).mono hbw.size))) (L - 1) (c - 1) (by omega)
          have CB := Lib.hid (fun d os => Calls.regrown_of (show Calls Tryd.prog 48 #[.string ⟨s.toArray⟩, .slice P2 (n - (L + 2)) (c - (L + 2))] (grow (redrawn w2 d) os) fun e w' => e = .returned (.tuple #[.int .i64 (bX (n - (L + 2)) (bulkIs s r)), .bool (bB (bulkIs s r))]) ∧ Below (grow (redrawn w2 d) os).heap.size (grow (redrawn w2 d) os) w' from
            body_any ⟨s.toArray⟩ P2 r (n - (L + 2)) (c - (L + 2)) (grow (redrawn w2 d) os) (by rw [size_bytes]; omega) (by omega) (HBr.out _ (hbw.trans ((below_regrown w2 d os).mono hbw.size))) (by omega) (by omega) (by omega) (HG.out.keep (hbw.trans ((below_regrown w2 d os).mono hbw.size)))))
          have hb := hbw
          rcases ho : bulkIs s r with _ | ⟨t, m⟩
          · have HX := Lib.hid (fun W hbw => piece_no (n := n) (o := one l) (w := w) (w' := W) ((L : Int) + 2) 0 (by rw [HOne.out, kind_bulk, ho]) hbw)
            rw [ho] at CB
            have CB2 := Lib.hid (show ∀ d os, Calls Tryd.prog 48 #[.string ⟨s.toArray⟩, .slice P2 (n - (L + 2)) (c - (L + 2))] (grow (redrawn w2 d) os) fun e w'' => e = .returned (.tuple #[.int .i64 0, .bool false]) ∧ ∃ p : Regrown, w'' = grow (redrawn w2 p.d) p.os from CB.out)
            clear hcl hbw ho CB hP2 hdr
            go_wp2_with fail
            refine wp_region_quiet_below (by kernel_rfl) (by kernel_rfl) ?_
            repeat (any_goals (go_big_quiet_step ((go_at_call 48; with_reducible exact CB2.out _ _))))
            refine wpQuiet_nil ?_
            intro _ hw'
            obtain ⟨⟨dq, osq⟩, hw''⟩ := hw'
            subst hw''
            replace hb := hb.trans ((below_regrown _ dq osq).mono hb.size)
            clear q1 q2 c1
            go_wp2_with fail
            go_ret3
            exact HX.out _ hb
          · have htl : t.length ≤ r.length := by
              obtain ⟨x, hx, -⟩ := kind_split (k := 36) (s := s) (r := r) (by rw [kind_bulk, ho])
              rw [hx, List.length_append]
              omega
            obtain rfl := bulk_zero ho
            obtain ⟨X, hX⟩ : ∃ X : Int, X = ((n - (L + 2) : Nat) : Int) - (t.length : Int) := ⟨_, rfl⟩
            have HX := Lib.hid (fun W hbw => piece_yes (n := n) (o := one l) (w := w) (w' := W) ((L : Int) + 2 + X) 0 t 0 (by rw [HOne.out, kind_bulk, ho]) (by omega) rfl hbw)
            rw [ho] at CB
            have CB2 := Lib.hid (show ∀ d os, Calls Tryd.prog 48 #[.string ⟨s.toArray⟩, .slice P2 (n - (L + 2)) (c - (L + 2))] (grow (redrawn w2 d) os) fun e w'' => e = .returned (.tuple #[.int .i64 X, .bool true]) ∧ ∃ p : Regrown, w'' = grow (redrawn w2 p.d) p.os by rw [hX]; exact CB.out)
            have x0 : 0 ≤ X := by omega
            have x1 : X ≤ 1048576 := by omega
            have e1 : IntKind.i64.wrap ((L : Int) + 2 + X) = (L : Int) + 2 + X := IntWalk.i64_in _ (by omega)
            clear hcl hbw ho CB hP2 hdr hX htl
            go_wp2_with fail
            refine wp_region_quiet_below (by kernel_rfl) (by kernel_rfl) ?_
            repeat (any_goals (go_big_quiet_step ((go_at_call 48; with_reducible exact CB2.out _ _))))
            refine wpQuiet_nil ?_
            intro _ hw'
            obtain ⟨⟨dq, osq⟩, hw''⟩ := hw'
            subst hw''
            replace hb := hb.trans ((below_regrown _ dq osq).mono hb.size)
            clear q1 q2 c1
            go_wp2_with fail
            go_ret3
            exact HX.out _ hb
        have t4 := byte_ne 36 36 rfl h36
        by_cases h42 : k = 42
        · subst h42
          have c1 := bs_string (HBs.out w2 hbw) (L - 1) (c - 1) (by omega)
          have CC := Lib.hid (count_any ⟨s.toArray⟩ w2 (by rw [size_bytes]; omega) (HG.out.keep hbw))
          rw [show (⟨s.toArray⟩ : ByteArray).data.toList = s from rfl] at CC
          have t5 : (((42 : UInt8).toNat : Int) == 42) = true := rfl
          cases hpb : cB s with
          | false =>
            rw [hpb] at CC
            have HX := Lib.hid (fun W hbw => piece_no (n := n) (o := one l) (w := w) (w' := W) ((L : Int) + 2) (cV s) (by rw [HOne.out, kind_arr, hpb]; rfl) hbw)
            obtain ⟨x, hx⟩ : ∃ x, x = cV s := ⟨_, rfl⟩
            rw [← hx] at CC HX
            clear hcl hbw hpb hx
            go_wp2_with fail
            refine CC.out.mono ?_
            rintro e w3 ⟨rfl, hb3⟩
            go_wp2_with fail
            go_ret3
            exact HX.out _ (HBw.out.trans (hb3.mono HBw.out.size))
          | true =>
            rw [hpb] at CC
            have h0 := cV_nat hpb
            have HX := Lib.hid (fun W hbw => piece_yes (n := n) (o := one l) (w := w) (w' := W) ((L : Int) + 2) (cV s) r (cV s).toNat (by rw [HOne.out, kind_arr, hpb]; rfl) (by omega) (by omega) hbw)
            obtain ⟨x, hx⟩ : ∃ x, x = cV s := ⟨_, rfl⟩
            rw [← hx] at CC HX
            clear hcl hbw hpb hx h0
            go_wp2_with fail
            refine CC.out.mono ?_
            rintro e w3 ⟨rfl, hb3⟩
            go_wp2_with fail
            go_ret3
            exact HX.out _ (HBw.out.trans (hb3.mono HBw.out.size))
        have t5 := byte_ne 42 42 rfl h42
        have HX := Lib.hid (fun W hbw => piece_no (n := n) (o := one l) (w := w) (w' := W) 0 0 (by rw [HOne.out]; exact kind_odd h43 h45 h58 h36 h42) hbw)
        clear hcl hbw
        go_wp2_with fail
        go_ret3
        exact HX.out _ HBw.out

end Go.Proofs.YteojijocoamohaaDoor.ReplyM
