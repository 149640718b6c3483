/-
  The line that begins at a place of a row, as the document's own answers of layer 5 (package tipstaffref05) take it.
-/
import Derived.Test.YteojijocoamohaaDoorRefReply
import Derived.Test.YteojijocoamohaaDoorReplyRows
import Derived.Laws.Slices
import Derived.Deep.DeepCutAuto
namespace Go.Proofs.YteojijocoamohaaDoor.RefR
open Go.RowKit Kit BytesIn ReplyMath ReplyT NumMath
set_option linter.unusedVariables false
set_option maxRecDepth 100000

theorem cutE_hit {l : List UInt8} {i : Nat} (h : i + 1 < l.length) (h1 : l[i] = 13) (h2 : l[i + 1] = 10) : cutE (l.drop i) = some ([], l.drop (i + 2)) := by
  rw [List.drop_eq_getElem_cons (show i < l.length by omega), List.drop_eq_getElem_cons h, cutE, if_pos ⟨h1, by simp [h2]⟩]
  simp
theorem cutE_miss {l : List UInt8} {i : Nat} (h : i + 1 < l.length) (hne : ¬ (l[i] = 13 ∧ l[i + 1] = 10)) : cutE (l.drop i) = (cutE (l.drop (i + 1))).map fun p => (l[i] :: p.1, p.2) := by
  rw [List.drop_eq_getElem_cons (show i < l.length by omega), cutE, if_neg]
  intro hh
  rw [List.drop_eq_getElem_cons h] at hh
  simp only [List.head?_cons, Option.some.injEq] at hh
  exact hne hh
theorem cutE_short {l : List UInt8} {i : Nat} (h : l.length ≤ i + 1) : cutE (l.drop i) = none := by
  rcases Nat.lt_or_ge i l.length with h' | h'
  · rw [List.drop_eq_getElem_cons h', List.drop_eq_nil_of_le h, cutE, if_neg (by simp)]
    simp [cutE]
  · rw [List.drop_eq_nil_of_le h']
    rfl
/-- What is known of the line behind so many bytes of it. -/
def upTo (l : List UInt8) (at_ i : Nat) : Option (List UInt8 × List UInt8) := (cutE (l.drop i)).map fun p => ((l.drop at_).take (i - at_) ++ p.1, p.2)
theorem upTo_start (l : List UInt8) (at_ : Nat) : upTo l at_ at_ = cutE (l.drop at_) := by
  unfold upTo
  rw [Nat.sub_self]
  cases cutE (l.drop at_) <;> rfl
theorem upTo_step {l : List UInt8} {at_ i : Nat} (ha : at_ ≤ i) (h : i + 1 < l.length) (hne : ¬ (l[i] = 13 ∧ l[i + 1] = 10)) : upTo l at_ i = upTo l at_ (i + 1) := by
  unfold upTo
  rw [cutE_miss h hne, Option.map_map]
  congr 1
  funext p
  have : (l.drop at_).take (i + 1 - at_) = (l.drop at_).take (i - at_) ++ [l[i]] := by
    rw [show i + 1 - at_ = i - at_ + 1 by omega, List.take_succ_eq_append_getElem (by rw [List.length_drop]; omega)]
    simp [show at_ + (i - at_) = i by omega]
  simp [this]
theorem upTo_hit {l : List UInt8} {at_ i : Nat} (h : i + 1 < l.length) (h1 : l[i] = 13) (h2 : l[i + 1] = 10) : upTo l at_ i = some ((l.drop at_).take (i - at_), l.drop (i + 2)) := by
  unfold upTo
  rw [cutE_hit h h1 h2]
  simp
theorem upTo_end {l : List UInt8} {at_ i : Nat} (h : l.length ≤ i + 1) : upTo l at_ i = none := by
  unfold upTo
  rw [cutE_short h]
  rfl

/-- A line, and where the next one begins. -/
def LineIs (n : Nat) (o : Option (List UInt8 × List UInt8)) (e : Ending) : Prop :=
  match o with
  | some (a, r) => e = .returned (.tuple #[.string ⟨a.toArray⟩, .int .i64 ((n : Int) - r.length)])
  | none => e = .returned (.tuple #[.string ⟨#[]⟩, .int .i64 (-1)])
theorem beq_byte (c d : UInt8) : ((c.toNat : Int) == (d.toNat : Int)) = decide (c = d) := by
  rw [Bool.eq_iff_iff, beq_iff_eq, decide_eq_true_eq, ← UInt8.toNat_inj]
  omega

set_option maxHeartbeats 2000000 in
theorem rline (p : Option Addr) (l : List UInt8) (n c st : Nat) (w : World) (hn : l.length = n) (hb : Bs w p l) (hc : n ≤ c) (hcm : c ≤ 9223372036854775807) (hz : n ≤ 1048576) (hst : st ≤ n) :
    Calls Tryd.prog 40 #[.slice p n c, .int .i64 (st : Int)] w fun e w' => LineIs n (cutE (l.drop st)) e ∧ w' = w := by
  have HN := Lib.hid hn
  have HB := Lib.hid hb
  have HS := Lib.hid (upTo_start l st)
  clear hb hn
  go_enter Tryd.func40, Tryd.ntmps40
  go_wp2_with fail
  go_loopw [6] (fun i wr => ∃ k : Nat, st ≤ k ∧ k ≤ n ∧ i = .int .i64 k ∧ wr = w ∧ Hid (upTo l st k = cutE (l.drop st))) (fun i _ => n - (intOf i).toNat)
  case atStart => exact ⟨st, Nat.le_refl _, hst, rfl, rfl, HS⟩
  case round =>
    obtain ⟨k, hsk, hk, rfl, rfl, HU⟩ := hrel
    have e1 : IntKind.i64.wrap ((k : Int) + 1) = (k : Int) + 1 := IntWalk.i64_in _ (by omega)
    by_cases hlt : k + 1 < n
    · have d1 : decide ((k : Int) + 1 < (n : Int)) = true := decide_eq_true (by omega)
      obtain ⟨b, off, rfl, hlb, hcell⟩ := HB.out (by rw [HN.out]; omega)
      have hl0 : k + 1 < l.length := by rw [HN.out]; omega
      have c0 := hcell k (by omega)
      have c1 := hcell (k + 1) hl0
      obtain ⟨x, hx⟩ : ∃ x, x = l[k]'(by omega) := ⟨_, rfl⟩
      obtain ⟨y, hy⟩ : ∃ y, y = l[k + 1] := ⟨_, rfl⟩
      rw [← hx] at c0
      rw [← hy] at c1
      have HX := Lib.hid hx
      have HY := Lib.hid hy
      have HC := Lib.hid hcell
      clear hx hy hcell
      by_cases h13 : x = 13
      · have t1 : ((x.toNat : Int) == 13) = true := by rw [h13]; rfl
        by_cases h10 : y = 10
        · have t2 : ((y.toNat : Int) == 10) = true := by rw [h10]; rfl
          have hs1 := fun W => sl_lh (some ⟨b, off, none⟩) n c st k hsk (by omega) W
          have hs2 := bs_string (partAt_bs (c := c) HB.out (by rw [HN.out]; exact hc) st k (by rw [HN.out]; omega)) (k - st) (c - st) (by rw [List.length_take, List.length_drop, HN.out]; omega)
          have e2 : IntKind.i64.wrap ((k : Int) + 2) = (k : Int) + 2 := IntWalk.i64_in _ (by omega)
          have HE := Lib.hid (show cutE (l.drop st) = some ((l.drop st).take (k - st), l.drop (k + 2)) by rw [← HU.out, upTo_hit hl0 (by rw [← HX.out]; exact h13) (by rw [← HY.out]; exact h10)])
          go_wp2_with fail
          go_ret2
          refine ⟨?_, rfl⟩
          rw [HE.out]
          show _ = Ending.returned (.tuple #[.string _, .int .i64 ((n : Int) - ((l.drop (k + 2)).length : Int))])
          rw [List.length_drop, HN.out, show (n : Int) - ((n - (k + 2) : Nat) : Int) = (k : Int) + 2 by omega]
          rfl
        · have t2 : ((y.toNat : Int) == 10) = false := by have : y.toNat ≠ 10 := fun h => h10 (UInt8.toNat_inj.1 h); rw [beq_eq_false_iff_ne]; omega
          have HE := Lib.hid (show upTo l st (k + 1) = cutE (l.drop st) by rw [← HU.out, upTo_step hsk hl0 (fun h => h10 (by rw [HY.out]; exact h.2))])
          go_wp2_with fail
          go_roundw
          case rel => exact ⟨k + 1, by omega, by omega, by go_num, (by trivial), HE⟩
          case measure => simp [intOf]; omega
      · have t1 : ((x.toNat : Int) == 13) = false := by have : x.toNat ≠ 13 := fun h => h13 (UInt8.toNat_inj.1 h); rw [beq_eq_false_iff_ne]; omega
        have HE := Lib.hid (show upTo l st (k + 1) = cutE (l.drop st) by rw [← HU.out, upTo_step hsk hl0 (fun h => h13 (by rw [HX.out]; exact h.1))])
        go_wp2_with fail
        go_roundw
        case rel => exact ⟨k + 1, by omega, by omega, by go_num, (by trivial), HE⟩
        case measure => simp [intOf]; omega
    · have d1 : decide ((k : Int) + 1 < (n : Int)) = false := decide_eq_false (by omega)
      have HE := Lib.hid (show cutE (l.drop st) = none by rw [← HU.out, upTo_end (by rw [HN.out]; omega)])
      go_wp2_with fail
      go_ret2
      exact ⟨by rw [HE.out]; rfl, rfl⟩

end Go.Proofs.YteojijocoamohaaDoor.RefR
