/-
  The keys of a request, as the document's own answers of layer 8 (package tipstaffref08) tell them.
-/
import Derived.Test.YtonoelpmmjnpeaaUseMath
import Derived.Lib.QuietBelow
import Derived.BigQuiet
import Derived.Deep.QuietTactic
import Derived.StillTailTactics
namespace Go.Proofs.Ytonoelpmmjnpeaa.RefU
open Go.RowKit Kit StrT UseT
set_option linter.unusedVariables false
set_option maxRecDepth 100000

def KeysP (name : List UInt8) (args : List (List UInt8)) (w : World) (e : Ending) (w' : World) : Prop := ∃ v, e = .returned v ∧ AnsU w.heap.size w' v (keysL name args) ∧ Below w.heap.size w w'
theorem ss_cell {w : World} {q : Option Addr} {L : List (List UInt8)} (h : Ss w q L) (k : Nat) (hk : k < L.length) : ∃ b off, q = some ⟨b, off, none⟩ ∧ b < w.heap.size ∧ w.cell? ⟨b, off + k, none⟩ = some (.string ⟨(L.getD k []).toArray⟩) := by
  obtain ⟨b, off, hp, hlt, hc⟩ := h (by omega)
  refine ⟨b, off, hp, hlt, ?_⟩
  rw [hc k hk]
  simp [List.getD, hk]
theorem ans1 (w : World) (A : ByteArray) (a : List UInt8) (r z : Bool) (hA : A = ⟨a.toArray⟩) : AnsU w.heap.size ((w.alloc (.cells #[] 43)).alloc (.cells #[.string A, .bool r, .bool z] 43)) (.slice (some ⟨w.heap.size + 1, 0, none⟩) 1 1) [⟨a, r, z⟩] := by
  subst hA
  obtain ⟨q, c, hv, hU, hge, h1⟩ := us_lit (w.alloc (.cells #[] 43)) [⟨a, r, z⟩] _ (w.heap.size + 1) rfl (by simp) 1 rfl (by decide)
  exact ⟨q, c, hv, hU, (fun x hx => by have := hge x hx; simp at this; omega), h1⟩
theorem bel1 (w : World) (o : Obj) : Below w.heap.size w (w.alloc o) := (Below.refl _ _).alloc (Nat.le_refl _) _
theorem bel2 (w : World) (o o' : Obj) : Below w.heap.size w ((w.alloc o).alloc o') := (bel1 w o).alloc (by simp) o'

set_option maxHeartbeats 4000000 in
theorem rkeys_g1 (s : ByteArray) (q : Option Addr) (args : List (List UInt8)) (n c : Nat) (w : World) (hn : args.length = n) (h : Ss w q args) (hm : s.data.toList ∈ g1) (h2 : 2 ≤ n) :
    Calls Try.prog 29 #[.string s, .slice q n c] w (KeysP s.data.toList args w) := by
  obtain ⟨b, off, rfl, hlt, hu⟩ := ss_cell h 1 (by omega)
  obtain ⟨A, hA⟩ : ∃ A : ByteArray, A = ⟨(args.getD 1 []).toArray⟩ := ⟨_, rfl⟩
  rw [← hA] at hu
  have HK := Lib.hid (keys_g1 args hm)
  have HA := Lib.hid (ans1 w A _ true false hA)
  have HB := Lib.hid (bel2 w (.cells #[] 43) (.cells #[.string A, .bool true, .bool false] 43))
  have h1 : (1 : Int) < (n : Int) := by omega
  have hu2 : (w.alloc (.cells #[] 43)).cell? ⟨b, off + 1, none⟩ = some (.string A) := by
    rw [(bel1 w _).cell (p := ⟨b, off + 1, none⟩) hlt]
    exact hu
  have hs : s = ⟨s.data.toList.toArray⟩ := rfl
  obtain ⟨l, hl⟩ : ∃ l, l = s.data.toList := ⟨_, rfl⟩
  rw [← hl] at hs hm HK ⊢
  clear hn h hA hu hl
  unfold g1 at hm
  simp only [List.mem_cons, List.not_mem_nil, or_false] at hm
  rcases hm with rfl | rfl | rfl | rfl | rfl | rfl | rfl | rfl | rfl | rfl | rfl | rfl | rfl | rfl | rfl
  all_goals
    subst hs
    go_enter Try.func29, Try.ntmps29
    go_wp2_with fail
    go_ret
    exact ⟨_, rfl, by rw [HK.out]; exact HA.out, HB.out⟩

set_option maxHeartbeats 4000000 in
theorem rkeys_g2 (s : ByteArray) (q : Option Addr) (args : List (List UInt8)) (n c : Nat) (w : World) (hn : args.length = n) (h : Ss w q args) (hm : s.data.toList ∈ g2) (h2 : 2 ≤ n) :
    Calls Try.prog 29 #[.string s, .slice q n c] w (KeysP s.data.toList args w) := by
  obtain ⟨b, off, rfl, hlt, hu⟩ := ss_cell h 1 (by omega)
  obtain ⟨A, hA⟩ : ∃ A : ByteArray, A = ⟨(args.getD 1 []).toArray⟩ := ⟨_, rfl⟩
  rw [← hA] at hu
  have HK := Lib.hid (keys_g2 args hm)
  have HA := Lib.hid (ans1 w A _ true true hA)
  have HB := Lib.hid (bel2 w (.cells #[] 43) (.cells #[.string A, .bool true, .bool true] 43))
  have h1 : (1 : Int) < (n : Int) := by omega
  have hu2 : (w.alloc (.cells #[] 43)).cell? ⟨b, off + 1, none⟩ = some (.string A) := by
    rw [(bel1 w _).cell (p := ⟨b, off + 1, none⟩) hlt]
    exact hu
  have hs : s = ⟨s.data.toList.toArray⟩ := rfl
  obtain ⟨l, hl⟩ : ∃ l, l = s.data.toList := ⟨_, rfl⟩
  rw [← hl] at hs hm HK ⊢
  clear hn h hA hu hl
  unfold g2 at hm
  simp only [List.mem_cons, List.not_mem_nil, or_false] at hm
  rcases hm with rfl | rfl | rfl | rfl | rfl | rfl | rfl | rfl | rfl | rfl | rfl | rfl | rfl | rfl | rfl | rfl | rfl | rfl
  all_goals
    subst hs
    go_enter Try.func29, Try.ntmps29
    go_wp2_with fail
    go_ret
    exact ⟨_, rfl, by rw [HK.out]; exact HA.out, HB.out⟩

set_option maxHeartbeats 4000000 in
theorem rkeys_set (q : Option Addr) (args : List (List UInt8)) (n c : Nat) (w : World) (hn : args.length = n) (h : Ss w q args) (h2 : 2 ≤ n) :
    Calls Try.prog 29 #[.string ⟨nSet.toArray⟩, .slice q n c] w (KeysP nSet args w) := by
  obtain ⟨b, off, rfl, hlt, hu⟩ := ss_cell h 1 (by omega)
  obtain ⟨A, hA⟩ : ∃ A : ByteArray, A = ⟨(args.getD 1 []).toArray⟩ := ⟨_, rfl⟩
  rw [← hA] at hu
  have HK := Lib.hid (keys_set args)
  rw [hn] at HK
  have h3 : decide ((3 : Int) < (n : Int)) = decide (3 < n) := by rw [Bool.eq_iff_iff, decide_eq_true_eq, decide_eq_true_eq]; omega
  obtain ⟨B, hB⟩ : ∃ B, B = decide (3 < n) := ⟨_, rfl⟩
  rw [← hB] at h3 HK
  have HA := Lib.hid (ans1 w A _ B true hA)
  have HB := Lib.hid (bel2 w (.cells #[] 43) (.cells #[.string A, .bool B, .bool true] 43))
  have h1 : (1 : Int) < (n : Int) := by omega
  have hu2 : (w.alloc (.cells #[] 43)).cell? ⟨b, off + 1, none⟩ = some (.string A) := by
    rw [(bel1 w _).cell (p := ⟨b, off + 1, none⟩) hlt]
    exact hu
  clear hn h hA hu hB
  go_enter Try.func29, Try.ntmps29
  go_wp2_with fail
  go_ret
  exact ⟨_, rfl, by rw [HK.out]; exact HA.out, HB.out⟩

end Go.Proofs.Ytonoelpmmjnpeaa.RefU
