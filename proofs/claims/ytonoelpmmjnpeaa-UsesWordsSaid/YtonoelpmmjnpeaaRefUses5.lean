/-
  The keys of a request that sets many, and all of them together, as the document's own answers of layer 8 (package tipstaffref08) tell them.
-/
import Derived.Test.YtonoelpmmjnpeaaRefUses4
import Derived.Test.YtonoelpmmjnpeaaRefUses2
namespace Go.Proofs.Ytonoelpmmjnpeaa.RefU
open Go.RowKit Kit StrT UseT TableMath Low
set_option linter.unusedVariables false
set_option maxRecDepth 100000

set_option maxHeartbeats 4000000 in
theorem rkeys_mset (q : Option Addr) (args : List (List UInt8)) (n c : Nat) (w : World) (hn : args.length = n) (h : Ss w q args) (hz : n ≤ 1048576) (hq : 1 ≤ n) :
    Calls Try.prog 29 #[.string ⟨nMset.toArray⟩, .slice q n c] w (KeysP nMset args w) := by
  have HS := Lib.hid h
  have HN := Lib.hid hn
  have HK := Lib.hid (keys_mset args)
  have HO := Lib.hid (OwnU.new w)
  have HBl := Lib.hid (bel1 w (.cells #[] 43))
  have HE := Lib.hid (odds_step args)
  clear hn h
  unfold nMset
  go_enter Try.func29, Try.ntmps29
  go_wp2_with fail
  go_loopw [5, 7] (fun v i wr => ∃ (k : Nat) (L : List U), 1 ≤ k ∧ k ≤ n + 1 ∧ i = .int .i64 k ∧ Hid (L.length ≤ k ∧ L ++ odds (args.drop k) = odds (args.drop 1)) ∧ Hid (OwnU w.heap.size wr v L) ∧ Hid (Below w.heap.size w wr)) (fun _ i _ => n + 2 - (intOf i).toNat)
  case atStart => exact ⟨1, [], Nat.le_refl _, by omega, rfl, Lib.hid ⟨by simp, rfl⟩, HO, HBl⟩
  case round =>
    obtain ⟨k, L, hk1, hk, rfl, HL, HOw, HB⟩ := hrel
    by_cases hlt : k < n
    · have d1 : decide ((k : Int) < (n : Int)) = true := decide_eq_true (by omega)
      have hk0 : (0 : Int) ≤ (k : Int) := by omega
      have hkn : (k : Int) < (n : Int) := by omega
      obtain ⟨b, off, rfl, hbl, hu⟩ := ss_cell (HS.out.keep HB.out) k (by rw [HN.out]; exact hlt)
      have HNx := Lib.hid (HE.out k (by rw [HN.out]; exact hlt))
      have hg : args[k]'(by rw [HN.out]; exact hlt) = args.getD k [] := by simp [List.getD, HN.out, hlt]
      have HR := Lib.hid (show (L ++ [(⟨args.getD k [], false, true⟩ : U)]).length ≤ k + 2 ∧ (L ++ [(⟨args.getD k [], false, true⟩ : U)]) ++ odds (args.drop (k + 2)) = odds (args.drop 1) by
        refine ⟨by have := HL.out.1; simp; omega, ?_⟩
        rw [← HL.out.2, HNx.out, hg, List.append_assoc]
        rfl)
      obtain ⟨T, hT⟩ : ∃ T : ByteArray, T = ⟨(args.getD k []).toArray⟩ := ⟨_, rfl⟩
      rw [← hT] at hu
      have HO1 := Lib.hid (HOw.out.keep (bel1 wr (.cells #[.string T, .bool false, .bool true] 43)))
      have HC := Lib.hid (one_use wr _ T _ false true hT rfl)
      have HBa := Lib.hid (HB.out.alloc HB.out.size (.cells #[.string T, .bool false, .bool true] 43))
      have HLn := Lib.hid (show L.length ≤ 1048576 by have := HL.out.1; omega)
      clear hT hg
      go_wp2_with (at_builtin; refine wpList_append_u (w0 := w) rfl (.tmp 116) (.tmp 122) rfl _ _ rfl HO1.out HBa.out wr.heap.size ⟨args.getD k [], false, true⟩ 1 rfl HC.out HLn.out ?_; intro v' w3 hown1 hb3)
      go_roundw
      case rel => exact ⟨k + 2, _, by omega, by omega, by go_num, HR, Lib.hid hown1, Lib.hid hb3⟩
      case measure => simp [intOf]; omega
    · have d1 : decide ((k : Int) < (n : Int)) = false := decide_eq_false (by omega)
      have HX := Lib.hid (show AnsU w.heap.size wr u5 (keysL nMset args) from by
        rw [HK.out, ← HL.out.2, List.drop_eq_nil_of_le (by rw [HN.out]; omega), odds, List.append_nil]
        exact HOw.out.ans)
      go_wp2_with fail
      go_ret
      exact ⟨_, rfl, HX.out, HB.out⟩

/-- Every command's name is of one group. -/
theorem groups_all : (List.range 56).all (fun k => decide ((cmdAt k).name ∈ g1 ∨ (cmdAt k).name ∈ g2 ∨ (cmdAt k).name = nSet ∨ ((cmdAt k).name = nRename ∨ (cmdAt k).name = nSmove) ∨ (cmdAt k).name ∈ g3 ∨ (cmdAt k).name = nMset ∨ (cmdAt k).name ∈ g0)) = true := by decide +kernel
theorem find_name {s : List UInt8} (h : findB s = true) : findK s < 56 ∧ (cmdAt (findK s)).name = s := by
  unfold findB at h
  have hk := of_decide_eq_true h
  refine ⟨hk, ?_⟩
  by_cases hn : (cmdAt (findK s)).name = s
  · exact hn
  · have := findK_next hk (Nat.le_refl _) hn
    omega
theorem group_of {s : List UInt8} (h : findB s = true) : s ∈ g1 ∨ s ∈ g2 ∨ s = nSet ∨ (s = nRename ∨ s = nSmove) ∨ s ∈ g3 ∨ s = nMset ∨ s ∈ g0 := by
  obtain ⟨hk, hn⟩ := find_name h
  have := List.all_eq_true.1 groups_all _ (List.mem_range.2 hk)
  have := of_decide_eq_true this
  rw [hn] at this
  exact this
/-- How many words each group asks for. -/
theorem asks_all : (List.range 56).all (fun k => decide ((((cmdAt k).name ∈ g1 ∨ (cmdAt k).name ∈ g2 ∨ (cmdAt k).name = nSet) → 2 ≤ (cmdAt k).ar.natAbs) ∧ (((cmdAt k).name = nRename ∨ (cmdAt k).name = nSmove) → 3 ≤ (cmdAt k).ar.natAbs) ∧ (cmdAt k).ar ≠ 0 ∧ (((cmdAt k).name = nPub ∨ (cmdAt k).name = nSub) → 2 ≤ (cmdAt k).ar.natAbs))) = true := by decide +kernel
theorem fits_abs {k n : Nat} (hk : k < 56) (h : fitsB (k : Int) (n : Int) = true) : (cmdAt k).ar.natAbs ≤ n := by
  unfold fitsB at h
  rw [Bool.and_eq_true] at h
  have hv : atV (k : Int) = cmdAt k := if_pos ⟨by omega, by omega⟩
  rw [hv] at h
  have h2 := h.2
  split at h2
  · have := of_decide_eq_true h2
    omega
  · have := of_decide_eq_true h2
    omega
theorem asks_of {s : List UInt8} {n : Nat} (h : findB s = true) (hf : okL s n = true) : ((s ∈ g1 ∨ s ∈ g2 ∨ s = nSet) → 2 ≤ n) ∧ ((s = nRename ∨ s = nSmove) → 3 ≤ n) ∧ 1 ≤ n ∧ ((s = nPub ∨ s = nSub) → 2 ≤ n) := by
  obtain ⟨hk, hn⟩ := find_name h
  have h1 := List.all_eq_true.1 asks_all _ (List.mem_range.2 hk)
  have h2 := of_decide_eq_true h1
  rw [hn] at h2
  unfold okL at hf
  rw [Bool.and_eq_true] at hf
  have h3 := fits_abs hk hf.1
  refine ⟨fun x => Nat.le_trans (h2.1 x) h3, fun x => Nat.le_trans (h2.2.1 x) h3, ?_, fun x => Nat.le_trans (h2.2.2.2 x) h3⟩
  have := h2.2.2.1
  omega

theorem rkeys_any (s : ByteArray) (q : Option Addr) (args : List (List UInt8)) (n c : Nat) (w : World) (hn : args.length = n) (h : Ss w q args) (hz : n ≤ 1048576) (hm : findB s.data.toList = true) (hf : okL s.data.toList n = true) :
    Calls Try.prog 29 #[.string s, .slice q n c] w (KeysP s.data.toList args w) := by
  obtain ⟨a1, a2, a3, -⟩ := asks_of hm hf
  rcases group_of hm with h1 | h1 | h1 | h1 | h1 | h1 | h1
  · exact rkeys_g1 s q args n c w hn h h1 (a1 (Or.inl h1))
  · exact rkeys_g2 s q args n c w hn h h1 (a1 (Or.inr (Or.inl h1)))
  · obtain rfl : s = ⟨nSet.toArray⟩ := by rw [← h1]
    exact rkeys_set q args n c w hn h (a1 (Or.inr (Or.inr h1)))
  · exact rkeys_two s q args n c w hn h h1 (a2 h1)
  · exact rkeys_g3 s q args n c w hn h h1 hz a3
  · obtain rfl : s = ⟨nMset.toArray⟩ := by rw [← h1]
    exact rkeys_mset q args n c w hn h hz a3
  · exact rkeys_g0 s q args n c w h1

end Go.Proofs.Ytonoelpmmjnpeaa.RefU
