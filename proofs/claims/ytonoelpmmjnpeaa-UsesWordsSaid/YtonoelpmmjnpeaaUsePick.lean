/-
  The landed code of layer 8: the functions that pick a command's keys and channels out of its words.
-/
import Derived.Test.YtonoelpmmjnpeaaUseMarked
import Derived.Test.YtonoelpmmjnpeaaRefUseOf2
import Derived.Deep.RegionLaw
namespace Go.Proofs.Ytonoelpmmjnpeaa.UseM
open Go.RowKit Kit StrT UseT TableMath Low MapT RefU
set_option linter.unusedVariables false
set_option maxRecDepth 100000

theorem ss_part {w : World} {q : Option Addr} {L : List (List UInt8)} (h : Ss w q L) (lo hi c : Nat) (h1 : lo ≤ hi) (h2 : hi ≤ L.length) (h3 : L.length ≤ c) : Ss w (StrT.partAt q c lo) ((L.take hi).drop lo) :=
  (h.take hi).drop lo (by rw [List.length_take]; omega) c (by rw [List.length_take]; omega)
/-- The words from the second one on, up to one of them. -/
theorem ss_from1 {w : World} {b off : Nat} {L : List (List UInt8)} (h : Ss w (some ⟨b, off, none⟩) L) (hi : Nat) (h0 : 1 ≤ hi) (h1 : hi ≤ L.length) : Ss w (some ⟨b, off + 1, none⟩) ((L.take hi).drop 1) := by
  have h2 := ss_part h 1 hi (L.length + 1) h0 h1 (by omega)
  unfold StrT.partAt at h2
  rw [if_neg (by omega)] at h2
  exact h2
theorem ss_all1 {w : World} {b off : Nat} {L : List (List UInt8)} (h : Ss w (some ⟨b, off, none⟩) L) (h1 : 1 ≤ L.length) : Ss w (some ⟨b, off + 1, none⟩) (L.drop 1) := by
  have h2 := ss_from1 h L.length h1 (Nat.le_refl _)
  rw [List.take_of_length_le (Nat.le_refl _)] at h2
  exact h2
theorem part_two (L : List (List UInt8)) (h : 2 ≤ L.length) : (L.take 2).drop 1 = [L.getD 1 []] := by
  match L, h with
  | _ :: _ :: _, _ => rfl
theorem part_three (L : List (List UInt8)) (h : 3 ≤ L.length) : (L.take 3).drop 1 = [L.getD 1 [], L.getD 2 []] := by
  match L, h with
  | _ :: _ :: _ :: _, _ => rfl

/-- What each of these functions is asked with. -/
structure Args (w : World) (q : Option Addr) (args : List (List UInt8)) (n c : Nat) : Prop where
  len : args.length = n
  ss : Ss w q args
  few : n ≤ 1048576
  cap : n ≤ c
  capm : c ≤ 9223372036854775807
  nil : q = none → c = 0
theorem Args.keep {w w' : World} {q : Option Addr} {args : List (List UInt8)} {n c : Nat} (h : Args w q args n c) (hb : Below w.heap.size w w') : Args w' q args n c := ⟨h.len, h.ss.keep hb, h.few, h.cap, h.capm, h.nil⟩

set_option maxHeartbeats 2000000 in
theorem second_read (q : Option Addr) (args : List (List UInt8)) (n c : Nat) (w : World) (H : Args w q args n c) (h2 : 2 ≤ n) : Calls Try.prog 36 #[.slice q n c] w (UsesP (keysK 0 args) w) := by
  obtain ⟨b, off, rfl, -, -⟩ := ss_first H.ss (by have := H.len; omega)
  have C := Lib.hid (marked_any (some ⟨b, off + 1, none⟩) [args.getD 1 []] 1 (c - 1) true false w rfl (by rw [← part_two args (by have := H.len; omega)]; exact ss_from1 H.ss 2 (by omega) (by have := H.len; omega)) (by omega))
  have hc : 2 ≤ c := Nat.le_trans h2 H.cap
  have hc1 : ¬ c = 1 := by omega
  have hcm := H.capm
  clear H
  go_enter Try.func36, Try.ntmps36
  go_wp2_with fail
  with_reducible refine C.out.mono ?_
  rintro e w1 ⟨v, rfl, hv, hb⟩
  go_wp2_with fail
  go_ret
  exact ⟨_, rfl, hv, hb⟩
set_option maxHeartbeats 2000000 in
theorem second_change (q : Option Addr) (args : List (List UInt8)) (n c : Nat) (w : World) (H : Args w q args n c) (h2 : 2 ≤ n) : Calls Try.prog 38 #[.slice q n c] w (UsesP (keysK 2 args) w) := by
  obtain ⟨b, off, rfl, -, -⟩ := ss_first H.ss (by have := H.len; omega)
  have C := Lib.hid (marked_any (some ⟨b, off + 1, none⟩) [args.getD 1 []] 1 (c - 1) true true w rfl (by rw [← part_two args (by have := H.len; omega)]; exact ss_from1 H.ss 2 (by omega) (by have := H.len; omega)) (by omega))
  have hc : 2 ≤ c := Nat.le_trans h2 H.cap
  have hc1 : ¬ c = 1 := by omega
  have hcm := H.capm
  clear H
  go_enter Try.func38, Try.ntmps38
  go_wp2_with fail
  with_reducible refine C.out.mono ?_
  rintro e w1 ⟨v, rfl, hv, hb⟩
  go_wp2_with fail
  go_ret
  exact ⟨_, rfl, hv, hb⟩
set_option maxHeartbeats 2000000 in
theorem both_change (q : Option Addr) (args : List (List UInt8)) (n c : Nat) (w : World) (H : Args w q args n c) (h2 : 3 ≤ n) : Calls Try.prog 41 #[.slice q n c] w (UsesP (keysK 5 args) w) := by
  obtain ⟨b, off, rfl, -, -⟩ := ss_first H.ss (by have := H.len; omega)
  have C := Lib.hid (marked_any (some ⟨b, off + 1, none⟩) [args.getD 1 [], args.getD 2 []] 2 (c - 1) true true w rfl (by rw [← part_three args (by have := H.len; omega)]; exact ss_from1 H.ss 3 (by omega) (by have := H.len; omega)) (by omega))
  have hc : 3 ≤ c := Nat.le_trans h2 H.cap
  have hc1 : ¬ c = 1 := by omega
  have hcm := H.capm
  clear H
  go_enter Try.func41, Try.ntmps41
  go_wp2_with fail
  with_reducible refine C.out.mono ?_
  rintro e w1 ⟨v, rfl, hv, hb⟩
  go_wp2_with fail
  go_ret
  exact ⟨_, rfl, hv, hb⟩
set_option maxHeartbeats 2000000 in
theorem set_any (q : Option Addr) (args : List (List UInt8)) (n c : Nat) (w : World) (H : Args w q args n c) (h2 : 2 ≤ n) : Calls Try.prog 37 #[.slice q n c] w (UsesP (keysK 1 args) w) := by
  obtain ⟨B, hB⟩ : ∃ B, B = decide (3 < n) := ⟨_, rfl⟩
  have hK : keysK 1 args = [⟨args.getD 1 [], B, true⟩] := by
    unfold keysK
    rw [if_neg (by decide), if_pos rfl, H.len, hB]
  rw [hK]
  have d1 : decide ((3 : Int) < (n : Int)) = B := by rw [hB, Bool.eq_iff_iff, decide_eq_true_eq, decide_eq_true_eq]; omega
  obtain ⟨b, off, rfl, -, -⟩ := ss_first H.ss (by have := H.len; omega)
  have C := Lib.hid (marked_any (some ⟨b, off + 1, none⟩) [args.getD 1 []] 1 (c - 1) B true w rfl (by rw [← part_two args (by have := H.len; omega)]; exact ss_from1 H.ss 2 (by omega) (by have := H.len; omega)) (by omega))
  have hc : 2 ≤ c := Nat.le_trans h2 H.cap
  have hc1 : ¬ c = 1 := by omega
  have hcm := H.capm
  clear H hB hK
  go_enter Try.func37, Try.ntmps37
  go_wp2_with fail
  with_reducible refine C.out.mono ?_
  rintro e w1 ⟨v, rfl, hv, hb⟩
  go_wp2_with fail
  go_ret
  exact ⟨_, rfl, hv, hb⟩
set_option maxHeartbeats 2000000 in
theorem all_read (q : Option Addr) (args : List (List UInt8)) (n c : Nat) (w : World) (H : Args w q args n c) (h1 : 1 ≤ n) : Calls Try.prog 39 #[.slice q n c] w (UsesP (keysK 3 args) w) := by
  have hcm := H.capm
  have hcn := H.cap
  by_cases hc1 : c = 1
  · subst hc1
    obtain rfl : n = 1 := by omega
    have hK : args.drop 1 = [] := List.drop_eq_nil_of_le (by rw [H.len]; exact Nat.le_refl _)
    have C := Lib.hid (marked_any q (args.drop 1) 0 0 true false w (by rw [hK]; rfl) (by rw [hK]; exact fun h => absurd h (by simp)) (by omega))
    clear H hK
    go_enter Try.func39, Try.ntmps39
    go_wp2_with fail
    with_reducible refine C.out.mono ?_
    rintro e w1 ⟨v, rfl, hv, hb⟩
    go_wp2_with fail
    go_ret
    exact ⟨_, rfl, hv, hb⟩
  · obtain ⟨b, off, rfl, -, -⟩ := ss_first H.ss (by have := H.len; omega)
    have C := Lib.hid (marked_any (some ⟨b, off + 1, none⟩) (args.drop 1) (n - 1) (c - 1) true false w (by rw [List.length_drop, H.len]) (ss_all1 H.ss (by have := H.len; omega)) (by have := H.few; omega))
    clear H
    go_enter Try.func39, Try.ntmps39
    go_wp2_with fail
    with_reducible refine C.out.mono ?_
    rintro e w1 ⟨v, rfl, hv, hb⟩
    go_wp2_with fail
    go_ret
    exact ⟨_, rfl, hv, hb⟩
set_option maxHeartbeats 2000000 in
theorem all_change (q : Option Addr) (args : List (List UInt8)) (n c : Nat) (w : World) (H : Args w q args n c) (h1 : 1 ≤ n) : Calls Try.prog 42 #[.slice q n c] w (UsesP (keysK 6 args) w) := by
  have hcm := H.capm
  have hcn := H.cap
  by_cases hc1 : c = 1
  · subst hc1
    obtain rfl : n = 1 := by omega
    have hK : args.drop 1 = [] := List.drop_eq_nil_of_le (by rw [H.len]; exact Nat.le_refl _)
    have C := Lib.hid (marked_any q (args.drop 1) 0 0 true true w (by rw [hK]; rfl) (by rw [hK]; exact fun h => absurd h (by simp)) (by omega))
    clear H hK
    go_enter Try.func42, Try.ntmps42
    go_wp2_with fail
    with_reducible refine C.out.mono ?_
    rintro e w1 ⟨v, rfl, hv, hb⟩
    go_wp2_with fail
    go_ret
    exact ⟨_, rfl, hv, hb⟩
  · obtain ⟨b, off, rfl, -, -⟩ := ss_first H.ss (by have := H.len; omega)
    have C := Lib.hid (marked_any (some ⟨b, off + 1, none⟩) (args.drop 1) (n - 1) (c - 1) true true w (by rw [List.length_drop, H.len]) (ss_all1 H.ss (by have := H.len; omega)) (by have := H.few; omega))
    clear H
    go_enter Try.func42, Try.ntmps42
    go_wp2_with fail
    with_reducible refine C.out.mono ?_
    rintro e w1 ⟨v, rfl, hv, hb⟩
    go_wp2_with fail
    go_ret
    exact ⟨_, rfl, hv, hb⟩

end Go.Proofs.Ytonoelpmmjnpeaa.UseM
