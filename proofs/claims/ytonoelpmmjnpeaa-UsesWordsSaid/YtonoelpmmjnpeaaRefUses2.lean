/-
  The keys of a request of two keys, and of none, as the document's own answers of layer 8 (package tipstaffref08) tell them.
-/
import Derived.Test.YtonoelpmmjnpeaaRefUses
import Derived.Test.YtonoelpmmjnpeaaUseNeed
import Derived.Test.YtonoelpmmjnpeaaQuietTail
import Derived.Test.YtonoelpmmjnpeaaStrSame
namespace Go.Proofs.Ytonoelpmmjnpeaa.RefU
open Go.RowKit Kit StrT UseT TableMath Low
set_option linter.unusedVariables false
set_option maxRecDepth 100000

theorem ans2 (w W W' : World) (k : Nat) (A B : ByteArray) (a b : List UInt8) (r z r' z' : Bool) (hA : A = ⟨a.toArray⟩) (hB : B = ⟨b.toArray⟩) (hw : w.heap.size ≤ W.heap.size) (hk : k = W.heap.size) (hW : W' = W.alloc (.cells #[.string A, .bool r, .bool z, .string B, .bool r', .bool z'] 43)) :
    AnsU w.heap.size W' (.slice (some ⟨k, 0, none⟩) 2 2) [⟨a, r, z⟩, ⟨b, r', z'⟩] := by
  subst hA hB hk hW
  exact ansU_low (us_lit W [⟨a, r, z⟩, ⟨b, r', z'⟩] _ W.heap.size rfl rfl 2 rfl (by decide)) hw

set_option maxHeartbeats 4000000 in
theorem rkeys_two (s : ByteArray) (q : Option Addr) (args : List (List UInt8)) (n c : Nat) (w : World) (hn : args.length = n) (h : Ss w q args) (hm : s.data.toList = nRename ∨ s.data.toList = nSmove) (h2 : 3 ≤ n) :
    Calls Try.prog 29 #[.string s, .slice q n c] w (KeysP s.data.toList args w) := by
  obtain ⟨b, off, rfl, hlt, hu⟩ := ss_cell h 1 (by omega)
  obtain ⟨b', off', e1, -, hv⟩ := ss_cell h 2 (by omega)
  injection e1 with e1
  injection e1 with e2 e3 e4
  subst e2 e3
  obtain ⟨A, hA⟩ : ∃ A : ByteArray, A = ⟨(args.getD 1 []).toArray⟩ := ⟨_, rfl⟩
  obtain ⟨B, hB⟩ : ∃ B : ByteArray, B = ⟨(args.getD 2 []).toArray⟩ := ⟨_, rfl⟩
  rw [← hA] at hu
  rw [← hB] at hv
  have h1 : (1 : Int) < (n : Int) := by omega
  have h22 : (2 : Int) < (n : Int) := by omega
  have hs : s = ⟨s.data.toList.toArray⟩ := rfl
  have HK1 := Lib.hid (keys_rename args)
  have HK2 := Lib.hid (keys_smove args)
  have HW := Lib.hid (bel1 w (.cells #[] 43))
  have HA := Lib.hid hA
  have HB := Lib.hid hB
  have hu2 : (w.alloc (.cells #[] 43)).cell? ⟨b, off + 1, none⟩ = some (.string A) := by
    rw [(bel1 w _).cell (p := ⟨b, off + 1, none⟩) hlt]
    exact hu
  have hv2 : (w.alloc (.cells #[] 43)).cell? ⟨b, off + 2, none⟩ = some (.string B) := by
    rw [(bel1 w _).cell (p := ⟨b, off + 2, none⟩) hlt]
    exact hv
  obtain ⟨l, hl⟩ : ∃ l, l = s.data.toList := ⟨_, rfl⟩
  rw [← hl] at hs hm ⊢
  clear hn h hA hB hl e4 hu hv
  rcases hm with rfl | rfl
  · have HR := Lib.hid (fun W W' k => ans2 w W W' k A B _ _ true true false true HA.out HB.out)
    subst hs
    unfold nRename
    go_enter Try.func29, Try.ntmps29
    go_wp2_with fail
    refine wp_region_quiet_tail_lit 8 (by kernel_rfl) (by kernel_rfl) ?_
    simp only [List.take_succ_cons, List.take_zero, List.drop_succ_cons, List.drop_zero]
    repeat (go_big_quiet_step (fail))
    refine wpQuiet_nil ?_
    rintro _ ⟨nq, rfl⟩
    have hb := StrS.below_drewN HW.out nq
    clear hu2 hv2 HW
    generalize World.drewN _ nq = w5 at hb ⊢
    have hbs := hb.size
    have HB5 := Lib.hid hb
    clear hb
    go_wp2_with fail
    go_ret
    exact ⟨_, rfl, by rw [show [114, 101, 110, 97, 109, 101] = nRename from rfl, HK1.out]; exact HR.out w5 _ _ hbs rfl rfl, HB5.out.alloc hbs _⟩
  · have HR := Lib.hid (fun W W' k => ans2 w W W' k A B _ _ true true true true HA.out HB.out)
    subst hs
    unfold nSmove
    go_enter Try.func29, Try.ntmps29
    go_wp2_with fail
    refine wp_region_quiet_tail_lit 8 (by kernel_rfl) (by kernel_rfl) ?_
    simp only [List.take_succ_cons, List.take_zero, List.drop_succ_cons, List.drop_zero]
    repeat (go_big_quiet_step (fail))
    refine wpQuiet_nil ?_
    rintro _ ⟨nq, rfl⟩
    have hb := StrS.below_drewN HW.out nq
    clear hu2 hv2 HW
    generalize World.drewN _ nq = w5 at hb ⊢
    have hbs := hb.size
    have HB5 := Lib.hid hb
    clear hb
    go_wp2_with fail
    go_ret
    exact ⟨_, rfl, by rw [show [115, 109, 111, 118, 101] = nSmove from rfl, HK2.out]; exact HR.out w5 _ _ hbs rfl rfl, HB5.out.alloc hbs _⟩

end Go.Proofs.Ytonoelpmmjnpeaa.RefU
