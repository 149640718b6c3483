/-
  The keys of a request of many keys, as the document's own answers of layer 8 (package tipstaffref08) tell them.
-/
import Derived.Test.YtonoelpmmjnpeaaRefUses3
namespace Go.Proofs.Ytonoelpmmjnpeaa.RefU
open Go.RowKit Kit StrT UseT TableMath Low
set_option linter.unusedVariables false
set_option maxRecDepth 100000

set_option maxHeartbeats 4000000 in
theorem rkeys_g3 (s : ByteArray) (q : Option Addr) (args : List (List UInt8)) (n c : Nat) (w : World) (hn : args.length = n) (h : Ss w q args) (hm : s.data.toList ∈ g3) (hz : n ≤ 1048576) (hq : 1 ≤ n) :
    Calls Try.prog 29 #[.string s, .slice q n c] w (KeysP s.data.toList args w) := by
  have HS := Lib.hid h
  have HN := Lib.hid hn
  have HK := Lib.hid (keys_g3 args hm)
  obtain ⟨B, hB⟩ : ∃ B : Bool, B = decide (s.data.toList = nDel) := ⟨_, rfl⟩
  rw [← hB] at HK
  have HO := Lib.hid (OwnU.new w)
  have HBl := Lib.hid (bel1 w (.cells #[] 43))
  have hs : s = ⟨s.data.toList.toArray⟩ := rfl
  obtain ⟨l, hl⟩ : ∃ l, l = s.data.toList := ⟨_, rfl⟩
  rw [← hl] at hs hm HK hB ⊢
  clear hl hn h
  unfold g3 at hm
  simp only [List.mem_cons, List.not_mem_nil, or_false] at hm
  have HE := Lib.hid (map_step args (fun a => ⟨a, true, B⟩))
  rcases hm with rfl | rfl | rfl | rfl
  rotate_left 3
  · obtain rfl : B = true := hB
    subst hs
    go_enter Try.func29, Try.ntmps29
    go_wp2_with fail
    go_loopw [5, 6] (fun v i wr => ∃ k : Nat, 1 ≤ k ∧ k ≤ n ∧ i = .int .i64 k ∧ Hid (OwnU w.heap.size wr v (((args.take k).drop 1).map fun a => ⟨a, true, true⟩)) ∧ Hid (Below w.heap.size w wr)) (fun _ i _ => n - (intOf i).toNat)
    case atStart => exact ⟨1, Nat.le_refl _, hq, rfl, Lib.hid (by rw [show ((args.take 1).drop 1) = [] from List.drop_eq_nil_of_le (by rw [List.length_take]; omega)]; exact HO.out), HBl⟩
    case round =>
      obtain ⟨k, hk1, hk, rfl, HOw, HB⟩ := hrel
      by_cases hlt : k < n
      · have d1 : decide ((k : Int) < (n : Int)) = true := decide_eq_true (by omega)
        have hk0 : (0 : Int) ≤ (k : Int) := by omega
        have hkn : (k : Int) < (n : Int) := by omega
        obtain ⟨b, off, rfl, hbl, hu⟩ := ss_cell (HS.out.keep HB.out) k (by rw [HN.out]; exact hlt)
        obtain ⟨T, hT⟩ : ∃ T : ByteArray, T = ⟨(args.getD k []).toArray⟩ := ⟨_, rfl⟩
        rw [← hT] at hu
        have HNx := Lib.hid (HE.out k hk1 (by rw [HN.out]; exact hlt))
        have HO1 := Lib.hid (HOw.out.keep (bel1 wr (.cells #[.string T, .bool true, .bool true] 43)))
        have HC := Lib.hid (one_use wr _ T _ true true hT rfl)
        have HBa := Lib.hid (HB.out.alloc HB.out.size (.cells #[.string T, .bool true, .bool true] 43))
        have HLn := Lib.hid (show (((args.take k).drop 1).map fun a => (⟨a, true, true⟩ : U)).length ≤ 1048576 by rw [List.length_map, List.length_drop, List.length_take]; omega)
        clear hT
        go_wp2_with (at_builtin; refine wpList_append_u (w0 := w) rfl (.tmp 98) (.tmp 106) rfl _ _ rfl HO1.out HBa.out wr.heap.size ⟨args.getD k [], true, true⟩ 1 rfl HC.out HLn.out ?_; intro v' w3 hown1 hb3)
        go_roundw
        case rel => exact ⟨k + 1, by omega, by omega, by go_num, Lib.hid (by rw [HNx.out]; exact hown1), Lib.hid hb3⟩
        case measure => simp [intOf]; omega
      · have d1 : decide ((k : Int) < (n : Int)) = false := decide_eq_false (by omega)
        obtain rfl : k = n := by omega
        have HX := Lib.hid (show AnsU w.heap.size wr u5 (keysL _ args) from by
          rw [HK.out]
          have h := HOw.out
          rw [List.take_of_length_le (by rw [HN.out]; omega)] at h
          exact h.ans)
        go_wp2_with fail
        go_ret
        exact ⟨_, rfl, HX.out, HB.out⟩
  all_goals
    obtain rfl : B = false := hB
    subst hs
    go_enter Try.func29, Try.ntmps29
    go_wp2_with fail
    go_loopw [5, 6] (fun v i wr => ∃ k : Nat, 1 ≤ k ∧ k ≤ n ∧ i = .int .i64 k ∧ Hid (OwnU w.heap.size wr v (((args.take k).drop 1).map fun a => ⟨a, true, false⟩)) ∧ Hid (Below w.heap.size w wr)) (fun _ i _ => n - (intOf i).toNat)
    case atStart => exact ⟨1, Nat.le_refl _, hq, rfl, Lib.hid (by rw [show ((args.take 1).drop 1) = [] from List.drop_eq_nil_of_le (by rw [List.length_take]; omega)]; exact HO.out), HBl⟩
    case round =>
      obtain ⟨k, hk1, hk, rfl, HOw, HB⟩ := hrel
      by_cases hlt : k < n
      · have d1 : decide ((k : Int) < (n : Int)) = true := decide_eq_true (by omega)
        have hk0 : (0 : Int) ≤ (k : Int) := by omega
        have hkn : (k : Int) < (n : Int) := by omega
        obtain ⟨b, off, rfl, hbl, hu⟩ := ss_cell (HS.out.keep HB.out) k (by rw [HN.out]; exact hlt)
        obtain ⟨T, hT⟩ : ∃ T : ByteArray, T = ⟨(args.getD k []).toArray⟩ := ⟨_, rfl⟩
        rw [← hT] at hu
        have HNx := Lib.hid (HE.out k hk1 (by rw [HN.out]; exact hlt))
        have HO1 := Lib.hid (HOw.out.keep (bel1 wr (.cells #[.string T, .bool true, .bool false] 43)))
        have HC := Lib.hid (one_use wr _ T _ true false hT rfl)
        have HBa := Lib.hid (HB.out.alloc HB.out.size (.cells #[.string T, .bool true, .bool false] 43))
        have HLn := Lib.hid (show (((args.take k).drop 1).map fun a => (⟨a, true, false⟩ : U)).length ≤ 1048576 by rw [List.length_map, List.length_drop, List.length_take]; omega)
        clear hT
        go_wp2_with (at_builtin; refine wpList_append_u (w0 := w) rfl (.tmp 98) (.tmp 106) rfl _ _ rfl HO1.out HBa.out wr.heap.size ⟨args.getD k [], true, false⟩ 1 rfl HC.out HLn.out ?_; intro v' w3 hown1 hb3)
        go_roundw
        case rel => exact ⟨k + 1, by omega, by omega, by go_num, Lib.hid (by rw [HNx.out]; exact hown1), Lib.hid hb3⟩
        case measure => simp [intOf]; omega
      · have d1 : decide ((k : Int) < (n : Int)) = false := decide_eq_false (by omega)
        obtain rfl : k = n := by omega
        have HX := Lib.hid (show AnsU w.heap.size wr u5 (keysL _ args) from by
          rw [HK.out]
          have h := HOw.out
          rw [List.take_of_length_le (by rw [HN.out]; omega)] at h
          exact h.ans)
        go_wp2_with fail
        go_ret
        exact ⟨_, rfl, HX.out, HB.out⟩

end Go.Proofs.Ytonoelpmmjnpeaa.RefU
