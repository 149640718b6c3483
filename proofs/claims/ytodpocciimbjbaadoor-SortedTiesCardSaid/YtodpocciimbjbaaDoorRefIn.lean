/-
  The document's own 'is this text one of some' (package tipstaffref01).
-/
import Derived.Test.YtodpocciimbjbaaDoorStrSame
namespace Go.Proofs.YtodpocciimbjbaaDoor.StrS
open Go.RowKit Kit StrT
set_option linter.unusedVariables false
set_option maxRecDepth 100000

set_option maxHeartbeats 1000000 in
theorem in_any (q : Option Addr) (L : List (List UInt8)) (n c : Nat) (T : ByteArray) (t : List UInt8) (w : World) (hn : L.length = n) (h : Ss w q L) (hT : T.data.toList = t) (hz : n ≤ 9223372036854775806) :
    Calls Tryd.prog 18 #[.slice q n c, .string T] w fun e w' => e = .returned (.bool (decide (t ∈ L))) ∧ w' = w := by
  have HN := Lib.hid hn
  have HS := Lib.hid h
  have HT := Lib.hid hT
  clear hn h hT
  go_enter Tryd.func18, Tryd.ntmps18
  go_wp2_with fail
  go_loopw [5] (fun i wr => ∃ k : Nat, k ≤ n ∧ i = .int .i64 k ∧ Hid (∀ x ∈ L.take k, x ≠ t) ∧ wr = w) (fun i _ => n - (intOf i).toNat)
  case atStart => exact ⟨0, Nat.zero_le _, rfl, Lib.hid (fun x hx => by simp at hx), rfl⟩
  case round =>
    obtain ⟨k, hk, rfl, HR, rfl⟩ := hrel
    by_cases hlt : k < n
    · have d1 : decide ((k : Int) < (n : Int)) = true := decide_eq_true (by omega)
      have hk0 : (0 : Int) ≤ (k : Int) := by omega
      have hkn : (k : Int) < (n : Int) := by omega
      have hkl : k < L.length := by rw [HN.out]; exact hlt
      obtain ⟨b, off, rfl, hbl, hc⟩ := HS.out (by omega)
      have hu := hc k hkl
      have hst : L.take (k + 1) = L.take k ++ [L[k]] := List.take_succ_eq_append_getElem hkl
      have hm : L[k] ∈ L := List.getElem_mem hkl
      obtain ⟨x, hx⟩ : ∃ x, x = L[k] := ⟨_, rfl⟩
      rw [← hx] at hu hst hm
      obtain ⟨S, hS⟩ : ∃ S : ByteArray, S = ⟨x.toArray⟩ := ⟨_, rfl⟩
      rw [← hS] at hu
      have hE : (S.toList == T.toList) = decide (x = t) := by
        rw [ByteArray.toList_eq, ByteArray.toList_eq, HT.out, hS, Bool.eq_iff_iff, beq_iff_eq, decide_eq_true_eq]
      by_cases hxt : x = t
      · have hE2 : (S.toList == T.toList) = true := by rw [hE]; exact decide_eq_true hxt
        have HF := Lib.hid (show decide (t ∈ L) = true from decide_eq_true (by rw [← hxt]; exact hm))
        clear hE hS hc hst hm hx hxt
        go_wp2_with fail
        go_ret
        exact ⟨ret_bool HF.out.symm, rfl⟩
      · have hE2 : (S.toList == T.toList) = false := by rw [hE]; exact decide_eq_false hxt
        have HNx := Lib.hid (show ∀ y ∈ L.take (k + 1), y ≠ t from fun y hy => by
          rw [hst] at hy
          rcases List.mem_append.1 hy with hy | hy
          · exact HR.out y hy
          · rw [List.mem_singleton.1 hy]; exact hxt)
        clear hE hS hc hst hm hx hxt
        go_wp2_with fail
        go_roundw
        case rel => exact ⟨k + 1, by omega, by go_num, HNx, trivial⟩
        case measure => simp [intOf]; omega
    · have d1 : decide ((k : Int) < (n : Int)) = false := decide_eq_false (by omega)
      have HF := Lib.hid (show decide (t ∈ L) = false from decide_eq_false (fun hm => by
        have h := HR.out
        rw [List.take_of_length_le (by rw [HN.out]; omega)] at h
        exact h t hm rfl))
      go_wp2_with fail
      go_ret
      exact ⟨ret_bool HF.out.symm, rfl⟩

end Go.Proofs.YtodpocciimbjbaaDoor.StrS
