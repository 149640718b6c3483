/-
  The landed code of layer 6: frame.bulk, a word of a row with its line.
-/
import Derived.Test.YtadffjmpkeaikaaDoorFrameHead
namespace Go.Proofs.YtadffjmpkeaikaaDoor.FrameM
open Go.RowKit Kit BytesIn ReplyMath ReplyT NumMath NumL FrameMath FrameT
set_option linter.unusedVariables false
set_option maxRecDepth 100000

/-- A word with its line. -/
def bulkR (l : List UInt8) : Rq :=
  match headL 36 0 512 l with
  | .bad => .bad
  | .part => .part
  | .is k j =>
    match wordAt k (l.drop j) with
    | .bad => .bad
    | .part => .part
    | .is w t => .is w (j + t)
def BulkP (p : Option Addr) (r : Rq) (w : World) (e : Ending) (w' : World) : Prop :=
  Below w.heap.size w w' ∧ match r with
  | .bad => e = .returned (.tuple #[.slice none 0 0, .int .i64 0, .int .i64 10])
  | .part => e = .returned (.tuple #[.slice none 0 0, .int .i64 0, .int .i64 0])
  | .is ws k => ∃ v s, ws = [s] ∧ e = .returned (.tuple #[v, .int .i64 (k : Int), .int .i64 0]) ∧ Ok w' v s ∧ 1 ≤ k ∧ ∀ a m c, v = .slice (some a) m c → ∃ a', p = some a' ∧ a'.block = a.block
theorem bulk_bad {p : Option Addr} {r : Rq} {w w' : World} (h : r = .bad) (hb : Below w.heap.size w w') : BulkP p r w (.returned (.tuple #[.slice none 0 0, .int .i64 0, .int .i64 10])) w' := by subst h; exact ⟨hb, rfl⟩
theorem bulk_part {p : Option Addr} {r : Rq} {w w' : World} (h : r = .part) (hb : Below w.heap.size w w') : BulkP p r w (.returned (.tuple #[.slice none 0 0, .int .i64 0, .int .i64 0])) w' := by subst h; exact ⟨hb, rfl⟩
theorem bulk_is {p : Option Addr} {r : Rq} {w w' : World} {s : List UInt8} {k : Nat} {v : Value} {x : Int} (h : r = .is [s] k) (hx : x = (k : Int)) (ho : Ok w' v s) (hk : 1 ≤ k) (ha : ∀ a m c, v = .slice (some a) m c → ∃ a', p = some a' ∧ a'.block = a.block) (hb : Below w.heap.size w w') : BulkP p r w (.returned (.tuple #[v, .int .i64 x, .int .i64 0])) w' := by subst h hx; exact ⟨hb, v, s, rfl, rfl, ho, hk, ha⟩
theorem partAt_block {p : Option Addr} {c lo : Nat} {a : Addr} (h : ReplyT.partAt p c lo = some a) : ∃ a', p = some a' ∧ a'.block = a.block := by
  unfold ReplyT.partAt at h
  split at h
  · exact ⟨a, h, rfl⟩
  · cases p with
    | none => cases h
    | some a' =>
      injection h with h
      subst h
      exact ⟨a', rfl, by simp only [Addr.add]; split <;> rfl⟩
theorem partAt_zero (p : Option Addr) (c : Nat) : ReplyT.partAt p c 0 = p := by
  unfold ReplyT.partAt
  split
  · rfl
  · cases p with
    | none => rfl
    | some a => simp [Addr.add]

set_option maxHeartbeats 4000000 in
theorem bulkf_any (p : Option Addr) (l : List UInt8) (n c : Nat) (w : World) (hn : l.length = n) (hb : Bs w p l) (hc : n ≤ c) (hcm : c ≤ 9223372036854775807) (hz : n ≤ 65536) (hnil : p = none → c = 0) (hg : Gd w) :
    Calls Tryd.prog 32 #[.slice p n c] w (BulkP p (bulkR l) w) := by
  have CH := head_any 36 0 512 p l n c w hn hb hc hcm (by omega) hnil (by decide) hg
  have HR : Hid (bulkR l = match headL 36 0 512 l with | .bad => .bad | .part => .part | .is k j => (match wordAt k (l.drop j) with | .bad => .bad | .part => .part | .is w t => .is w (j + t))) := Lib.hid rfl
  rcases hh : headL 36 0 512 l with _ | _ | ⟨k, j⟩
  · rw [hh] at CH
    have CH : Hid (Calls Tryd.prog 31 #[.slice p n c, .int .u8 36, .int .i64 0, .int .i64 512] w fun e w' => Below w.heap.size w w' ∧ e = .returned (.tuple #[.int .i64 0, .int .i64 0, .int .i64 10])) := Lib.hid CH
    have HX := Lib.hid (show bulkR l = .bad by rw [HR.out, hh])
    clear hh HR hb hnil hg
    go_enter Tryd.func32, Tryd.ntmps32
    go_wp2_with fail
    refine CH.out.mono ?_
    rintro e w1 ⟨hb1, rfl⟩
    go_wp2_with fail
    go_ret3
    exact bulk_bad HX.out hb1
  · rw [hh] at CH
    have CH : Hid (Calls Tryd.prog 31 #[.slice p n c, .int .u8 36, .int .i64 0, .int .i64 512] w fun e w' => Below w.heap.size w w' ∧ e = .returned (.tuple #[.int .i64 0, .int .i64 0, .int .i64 0])) := Lib.hid CH
    have HX := Lib.hid (show bulkR l = .part by rw [HR.out, hh])
    clear hh HR hb hnil hg
    go_enter Tryd.func32, Tryd.ntmps32
    go_wp2_with fail
    refine CH.out.mono ?_
    rintro e w1 ⟨hb1, rfl⟩
    go_wp2_with fail
    go_ret3
    exact bulk_part HX.out hb1
  · rw [hh] at CH
    have CH : Hid (Calls Tryd.prog 31 #[.slice p n c, .int .u8 36, .int .i64 0, .int .i64 512] w fun e w' => Below w.heap.size w w' ∧ e = .returned (.tuple #[.int .i64 (k : Int), .int .i64 (j : Int), .int .i64 0])) := Lib.hid CH
    obtain ⟨h1, h2, -, h4, -⟩ := headL_is hh
    have hk512 : k ≤ 512 := by omega
    have HR2 := Lib.hid (show bulkR l = match wordAt k (l.drop j) with | .bad => .bad | .part => .part | .is w t => .is w (j + t) by rw [HR.out, hh])
    have t0 : ((j : Int) == 0) = false := by rw [beq_eq_false_iff_ne]; omega
    have q1 := fun W => sl_l p n c j (by omega) W
    have e1 : IntKind.i64.wrap ((k : Int) + 2) = (k : Int) + 2 := IntWalk.i64_in _ (by omega)
    have HBP := Lib.hid (fun W (h : Below w.heap.size w W) => (show Bs W (ReplyT.partAt p c j) (l.drop j) by
      have h1 := partAt_bs (c := c) (hb.keep h) (by omega) j n (by omega)
      rwa [List.take_of_length_le (by rw [List.length_drop]; omega)] at h1))
    have hdl : (l.drop j).length = n - j := by rw [List.length_drop, hn]
    have HPN := Lib.hid (show ReplyT.partAt p c j = none → c - j = 0 from fun h => partAt_none hnil h)
    have HPB := Lib.hid (fun a => (partAt_block (p := p) (c := c) (lo := j) (a := a)))
    obtain ⟨P, hP⟩ : ∃ P, P = ReplyT.partAt p c j := ⟨_, rfl⟩
    obtain ⟨r, hr⟩ : ∃ r, r = l.drop j := ⟨_, rfl⟩
    rw [← hP] at q1 HBP HPN HPB
    rw [← hr] at HBP HR2 hdl
    clear hh HR hb hnil hg hP hr h4
    by_cases hlt : n - j < k + 2
    · have HX := Lib.hid (show bulkR l = .part by rw [HR2.out]; unfold wordAt; rw [if_pos (by omega)])
      have t1 : decide (((n - j : Nat) : Int) < (k : Int) + 2) = true := decide_eq_true (by omega)
      go_enter Tryd.func32, Tryd.ntmps32
      go_wp2_with fail
      refine CH.out.mono ?_
      rintro e w1 ⟨hb1, rfl⟩
      go_wp2_with fail
      go_ret3
      exact bulk_part HX.out hb1
    · have t1 : decide (((n - j : Nat) : Int) < (k : Int) + 2) = false := decide_eq_false (by omega)
      have q2 := fun W => sl_l P (n - j) (c - j) k (by omega) W
      have q3 := fun W => sl_h P (n - j) (c - j) k (by omega) W
      rw [partAt_zero] at q3
      have CPx := Lib.hid (fun W (h : Below w.heap.size w W) => prefix_end (ReplyT.partAt P (c - j) k) (r.drop k) (n - j - k) (c - j - k) (some ⟨W.heap.size, 0, none⟩) 2 (W.alloc (.cells (bv [13, 10]).toArray 5 (2, 3))) (by rw [List.length_drop, hdl]) (by
        have h1 := partAt_bs (c := c - j) (HBP.out W h) (by omega) k (n - j) (by omega)
        rw [List.take_of_length_le (by rw [List.length_drop]; omega)] at h1
        exact h1.keep (below1 W _)) (by omega) (lit_bs W [13, 10] _ _))
      obtain ⟨P2, hP2⟩ : ∃ P2, P2 = ReplyT.partAt P (c - j) k := ⟨_, rfl⟩
      rw [← hP2] at q2 CPx
      obtain ⟨b, hbb⟩ : ∃ b, b = decide ((r.drop k).take 2 = [13, 10]) := ⟨_, rfl⟩
      rw [← hbb] at CPx
      have HW := Lib.hid (show wordAt k r = if (r.drop k).take 2 = [13, 10] then .is [r.take k] (k + 2) else .bad by unfold wordAt; rw [if_neg (by omega)])
      clear hP2
      cases b with
      | false =>
        have HX := Lib.hid (show bulkR l = .bad by rw [HR2.out, HW.out, if_neg (of_decide_eq_false hbb.symm)])
        clear hbb hdl
        go_enter Tryd.func32, Tryd.ntmps32
        go_wp2_with fail
        refine CH.out.mono ?_
        rintro e w1 ⟨hb1, rfl⟩
        have CP1 := Lib.hid (CPx.out w1 hb1)
        have HB1 := Lib.hid (hb1.alloc hb1.size (.cells (bv [13, 10]).toArray 5 (2, 3)))
        have hrun1 := run_const w1
        clear hb1
        go_wp2_with fail
        refine CP1.out.mono ?_
        rintro e w2 ⟨rfl, rfl⟩
        go_wp2_with fail
        go_ret3
        exact bulk_bad HX.out HB1.out
      | true =>
        have HX := Lib.hid (show bulkR l = .is [r.take k] (j + (k + 2)) by rw [HR2.out, HW.out, if_pos (of_decide_eq_true hbb.symm)])
        have e2 : IntKind.i64.wrap ((j : Int) + (k : Int)) = ((j + k : Nat) : Int) := by rw [show (j : Int) + (k : Int) = ((j + k : Nat) : Int) by omega]; exact IntWalk.i64_in _ (by omega)
        have e3 : IntKind.i64.wrap (((j + k : Nat) : Int) + 2) = ((j + k : Nat) : Int) + 2 := IntWalk.i64_in _ (by omega)
        have HL := Lib.hid (show (r.take k).length = k by rw [List.length_take]; omega)
        clear hbb hdl
        go_enter Tryd.func32, Tryd.ntmps32
        go_wp2_with fail
        refine CH.out.mono ?_
        rintro e w1 ⟨hb1, rfl⟩
        have CP1 := Lib.hid (CPx.out w1 hb1)
        have HB1 := Lib.hid (hb1.alloc hb1.size (.cells (bv [13, 10]).toArray 5 (2, 3)))
        have hrun1 := run_const w1
        clear hb1
        go_wp2_with fail
        refine CP1.out.mono ?_
        rintro e w2 ⟨rfl, rfl⟩
        go_wp2_with fail
        go_ret3
        refine bulk_is HX.out (by omega) ⟨P, c - j, by rw [HL.out]; rfl, ReplyT.Bs.take (HBP.out _ HB1.out) k, by rw [HL.out]; omega, by omega, HPN.out⟩ (by omega) (fun a m c hv => HPB.out a (by injection hv)) HB1.out

end Go.Proofs.YtadffjmpkeaikaaDoor.FrameM
