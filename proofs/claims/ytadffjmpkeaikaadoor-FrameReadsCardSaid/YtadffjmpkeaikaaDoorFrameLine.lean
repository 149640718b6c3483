/-
  The landed code of layer 6: frame.line, a line of at most so many bytes.
-/
import Derived.Test.YtadffjmpkeaikaaDoorFrameRead0
import Derived.Test.YtadffjmpkeaikaaDoorShelf
import Derived.Shelf.Bytes.IndexByte
import Derived.Shelf.Bytes.SlIndexAt
import Derived.Lib.IndexMore
import Derived.Lib.SlFresh
namespace Go.Proofs.YtadffjmpkeaikaaDoor.FrameM
open Go.RowKit Kit BytesIn ReplyMath ReplyT NumMath FrameMath FrameT
set_option linter.unusedVariables false
set_option maxRecDepth 100000

def at10 : Option Nat → Int
  | none => -1
  | some i => (i : Int)
theorem index_find : ∀ (f : Nat) (l : List UInt8), Lib.indexByte (l.take f) 10 = at10 (find10 f l)
  | 0, l => by simp [Lib.indexByte, find10, at10]
  | f + 1, [] => by simp [Lib.indexByte, find10, at10]
  | f + 1, c :: r => by
    rw [List.take_succ_cons, Lib.indexByte, find10, index_find f r]
    by_cases hc : c = 10
    · subst hc
      simp [at10]
    · rw [if_neg hc, if_neg (by simpa using hc)]
      cases find10 f r with
      | none => rfl
      | some i =>
        show (if ((i : Int) == -1) = true then -1 else (i : Int) + 1) = ((i + 1 : Nat) : Int)
        rw [if_neg (by rw [beq_iff_eq]; omega)]
        omega
theorem bs_in {w : World} {p : Option Addr} {l : List UInt8} {n : Nat} (h : Bs w p l) (hn : l.length = n) : Lib.BytesIn w p n (Lib.numsL l) := by
  subst hn
  intro h0
  obtain ⟨b, off, hp, -, hc⟩ := h h0
  refine ⟨b, off, hp, fun i hi => ?_⟩
  rw [hc i hi, List.getD_eq_getElem?_getD, List.getElem?_eq_getElem (by rw [Lib.numsL_length]; exact hi)]
  simp [Lib.numsL]
/-- bytes.IndexByte at a byte 10. -/
theorem byte10_any (p : Option Addr) (l : List UInt8) (n c : Nat) (w : World) (hn : l.length = n) (hb : Bs w p l) (hnil : p = none → c = 0) :
    Calls Tryd.prog 44 #[.slice p n c, .int .u8 10] w fun e w' => e = .returned (.int .i64 (Lib.indexByte l 10)) ∧ w' = w := by
  rcases p with _ | ad
  · obtain rfl := hnil rfl
    have h0 : l = [] := by
      rcases Nat.eq_zero_or_pos l.length with h' | h'
      · exact List.eq_nil_of_length_eq_zero h'
      · obtain ⟨b, off, e, -⟩ := hb h'
        cases e
    subst h0
    subst hn
    exact Tryd.bytes_IndexByte_nil 10 w
  · refine (Tryd.bytes_IndexByte_at ad n c (Lib.numsL l) 10 w (by rw [Lib.numsL_length, hn]) (fun i hi => ?_)).mono ?_
    · obtain ⟨b, off, e, hc⟩ := bs_in hb hn (by omega)
      injection e with e
      subst e
      rw [Addr.add_lit]
      exact hc i hi
    · rintro e w' ⟨he, hw⟩
      rw [Lib.bytesOf_numsL] at he
      exact ⟨he, hw⟩

/-- What a line is answered as. -/
def LineP (o : Option Nat) (p : Option Addr) (c : Nat) (full : Bool) (w : World) (e : Ending) (w' : World) : Prop :=
  w' = w ∧ match o with
  | some i => e = .returned (.tuple #[.slice (ReplyT.partAt p c 0) i c, .int .i64 ((i : Int) + 1), .int .i64 0])
  | none => e = .returned (.tuple #[.slice none 0 0, .int .i64 0, .int .i64 (if full = true then 10 else 0)])
set_option maxHeartbeats 2000000 in
theorem line_any (M : Nat) (p : Option Addr) (l : List UInt8) (n c : Nat) (w : World) (hM : M ≤ 1024) (hn : l.length = n) (hb : Bs w p l) (hc : n ≤ c) (hcm : c ≤ 9223372036854775807) (hnil : p = none → c = 0) :
    Calls Tryd.prog 34 #[.slice p n c, .int .i64 (M : Int)] w (LineP (find10 M l) p c (decide (M ≤ n)) w) := by
  obtain ⟨K, hK⟩ : ∃ K, K = min n M := ⟨_, rfl⟩
  have hKi : min (n : Int) (M : Int) = (K : Int) := by omega
  have q1 := fun W => sl_h p n c K (by omega) W
  have C := byte10_any (ReplyT.partAt p c 0) (l.take M) K c w (by rw [List.length_take, hn, hK]; omega) (by
    have h1 := partAt_bs (c := c) hb (by omega) 0 n (by omega)
    rw [List.drop_zero, Nat.sub_zero, List.take_of_length_le (by omega)] at h1
    exact ReplyT.Bs.take h1 M) (fun h => by have := partAt_none hnil h; omega)
  rw [index_find] at C
  have C := Lib.hid C
  obtain ⟨P, hP⟩ : ∃ P, P = ReplyT.partAt p c 0 := ⟨_, rfl⟩
  rw [← hP] at C q1
  have HP := Lib.hid hP
  rcases ho : find10 M l with _ | i
  · rw [ho] at C
    have C : Hid (Calls Tryd.prog 44 #[.slice P K c, .int .u8 10] w fun e w' => e = .returned (.int .i64 (-1)) ∧ w' = w) := C
    clear ho hb hnil hP hn
    by_cases hf : M ≤ n
    · have t1 : decide ((M : Int) ≤ (n : Int)) = true := decide_eq_true (by omega)
      have HF := Lib.hid (show decide (M ≤ n) = true from decide_eq_true hf)
      clear hK
      go_enter Tryd.func34, Tryd.ntmps34
      go_wp2_with fail
      refine C.out.mono ?_
      rintro e w1 ⟨rfl, rfl⟩
      go_wp2_with fail
      go_ret3
      exact ⟨rfl, by rw [HF.out]; rfl⟩
    · have t1 : decide ((M : Int) ≤ (n : Int)) = false := decide_eq_false (by omega)
      have HF := Lib.hid (show decide (M ≤ n) = false from decide_eq_false hf)
      clear hK
      go_enter Tryd.func34, Tryd.ntmps34
      go_wp2_with fail
      refine C.out.mono ?_
      rintro e w1 ⟨rfl, rfl⟩
      go_wp2_with fail
      go_ret3
      exact ⟨rfl, by rw [HF.out]; rfl⟩
  · rw [ho] at C
    have C : Hid (Calls Tryd.prog 44 #[.slice P K c, .int .u8 10] w fun e w' => e = .returned (.int .i64 (i : Int)) ∧ w' = w) := C
    obtain ⟨h1, h2, -⟩ := find10_some ho
    have q2 := fun W => sl_h p n c i (by omega) W
    rw [← hP] at q2
    have e1 : IntKind.i64.wrap ((i : Int) + 1) = (i : Int) + 1 := IntWalk.i64_in _ (by omega)
    clear ho hb hnil hP hn hK h2
    go_enter Tryd.func34, Tryd.ntmps34
    go_wp2_with fail
    refine C.out.mono ?_
    rintro e w1 ⟨rfl, rfl⟩
    go_wp2_with fail
    go_ret3
    exact ⟨rfl, by rw [← HP.out]; rfl⟩

end Go.Proofs.YtadffjmpkeaikaaDoor.FrameM
