/-
  What a request that is one needs, as the document's own answers of layer 8 (package tipstaffref08) tell it.
-/
import Derived.Test.YtonoelpmmjnpeaaRefUseOf
namespace Go.Proofs.Ytonoelpmmjnpeaa.RefU
open Go.RowKit Kit StrT UseT TableMath Low
open RefTab (results_cell_slot)
set_option linter.unusedVariables false
set_option maxRecDepth 100000

theorem ansS_high {base : Nat} {w w' : World} {v : Value} {L : List (List UInt8)} (h : AnsS base w v L) (hk : ∀ k, base ≤ k → w'.heap[k]? = w.heap[k]?) (hs : w.heap.size ≤ w'.heap.size) : AnsS base w' v L := by
  obtain ⟨q, c, hv, hS, hge, h1⟩ := h
  refine ⟨q, c, hv, fun h0 => ?_, hge, h1⟩
  obtain ⟨b, off, e, hlt, hc⟩ := hS h0
  have hb := hge _ e
  refine ⟨b, off, e, by omega, fun j hj => ?_⟩
  rw [← hc j hj]
  simp [World.cell?, hk b hb]
theorem ansU_high {base : Nat} {w w' : World} {v : Value} {L : List U} (h : AnsU base w v L) (hk : ∀ k, base ≤ k → w'.heap[k]? = w.heap[k]?) (hs : w.heap.size ≤ w'.heap.size) : AnsU base w' v L := by
  obtain ⟨q, c, hv, hS, hge, h1⟩ := h
  refine ⟨q, c, hv, fun h0 => ?_, hge, h1⟩
  obtain ⟨b, off, e, hlt, hc⟩ := hS h0
  have hb := hge _ e
  refine ⟨b, off, e, by omega, fun j hj => ?_⟩
  rw [← hc j hj]
  simp [World.cell?, hk b hb]
/-- The end: the whole need is stored where the answer lies. -/
theorem need_end {w w6 : World} {args : List (List UInt8)} {m : List UInt8} {vk vc : Value} {a z : Bool} {k : Int} {base : Nat} (hbase : w.heap.size < base) (hb : Below w.heap.size w w6) (hm : ofN args = needL m args ∧ ofE args = 0) (hk : (findK m : Int) = k)
    (hU : AnsU base w6 vk (keysL m args)) (hS : AnsS base w6 vc (chansL m args)) (ha : decide (m = nKeys ∨ m = nDbsize) = a) (hz : decide (m = nFlush) = z) :
    OfP args w (.returned (.tuple #[.agg #[.int .i64 k, vk, .bool a, .bool z, vc], .int .i64 0])) (w6.setRow w.heap.size #[.int .i64 k, vk, .bool a, .bool z, vc]) := by
  subst hk ha hz
  have ho : ∀ j, base ≤ j → (w6.setRow w.heap.size #[.int .i64 (findK m : Int), vk, .bool (decide (m = nKeys ∨ m = nDbsize)), .bool (decide (m = nFlush)), vc]).heap[j]? = w6.heap[j]? := fun j hj => setRow_other w6 _ j _ (by omega)
  refine ofP_mk (by rw [hm.2]; rfl) ?_ (below_setRow hb (Nat.le_refl _) _)
  rw [hm.1]
  exact ⟨vk, vc, rfl, ansU_low (ansU_high hU ho (by simp)) (by omega), ansS_low (ansS_high hS ho (by simp)) (by omega)⟩
theorem name_eq {T : ByteArray} {m l : List UInt8} (hT : T.data.toList = m) (h : m = l) : (T.toList == l) = true ∧ (T.toList == (⟨l.toArray⟩ : ByteArray).toList) = true := by
  subst h
  refine ⟨?_, ?_⟩
  · rw [ByteArray.toList_eq, hT]; exact beq_self_eq_true _
  · rw [ByteArray.toList_eq, ByteArray.toList_eq, hT]; exact beq_self_eq_true _
theorem name_ne {T : ByteArray} {m l : List UInt8} (hT : T.data.toList = m) (h : m ≠ l) : (T.toList == l) = false ∧ (T.toList == (⟨l.toArray⟩ : ByteArray).toList) = false := by
  refine ⟨?_, ?_⟩
  · rw [ByteArray.toList_eq, hT]; exact beq_eq_false_iff_ne.2 h
  · rw [ByteArray.toList_eq, ByteArray.toList_eq, hT]; exact beq_eq_false_iff_ne.2 h
theorem need_one {vk vc : Value} {a z : Bool} {k : Int} {qk qc : Option Addr} {nk ck nc cc : Nat} (h : vk = .slice qk nk ck) (h2 : vc = .slice qc nc cc) : (#[.int .i64 k, vk, .bool a, .bool z, vc] : Array Value).all (·.oneCell') = true := by
  subst h h2
  simp [Value.oneCell']

theorem ans_one {base : Nat} (W : World) (A : ByteArray) (a : List UInt8) (hA : A = ⟨a.toArray⟩) (hb : base ≤ W.heap.size) : AnsS base (W.alloc (.cells #[.string A] 9)) (.slice (some ⟨W.heap.size, 0, none⟩) 1 1) [a] := by
  subst hA
  refine ⟨_, 1, rfl, fun _ => ⟨W.heap.size, 0, rfl, by simp, fun j hj => ?_⟩, (fun x hx => by injection hx with hx; subst hx; exact hb), by simp, by omega, fun h => by cases h⟩
  match j, hj with
  | 0, _ => simp [World.cell?_alloc_mark]
  | j + 1, hj => simp at hj
theorem ans_one' {base : Nat} (W : World) (k : Nat) (hk : k = W.heap.size) (A : ByteArray) (a : List UInt8) (hA : A = ⟨a.toArray⟩) (hb : base ≤ W.heap.size) : AnsS base (W.alloc (.cells #[.string A] 9)) (.slice (some ⟨k, 0, none⟩) 1 1) [a] := by
  subst hk
  exact ans_one W A a hA hb
theorem need_put (W : World) (x0 x1 x2 x3 x4 y : Value) (k : Nat) (hk : k = W.heap.size) (j : Nat) (cs : Array Value) (hc : (#[x0, x1, x2, x3, x4] : Array Value).setIfInBounds j y = cs) : ((W.alloc (.cells #[x0, x1, x2, x3, x4] 27)).setCell ⟨k, j, none⟩ y).heap[k]? = some (.cells cs 27 (0, 0)) := by
  subst hk hc
  exact heap_setCell_same _ _ j _ _ _ (heap_alloc_last _ _)
set_option maxHeartbeats 8000000 in
theorem rof_ok (q : Option Addr) (args : List (List UInt8)) (n c : Nat) (w : World) (hn : args.length = n) (h : Ss w q args) (hz : n ≤ 1048576) (hcap : n ≤ c) (h0 : 0 < n) (hs : (args.getD 0 []).length ≤ 140737488351232) (hf : findB (nameL args) = true) (hok : okL (nameL args) n = true) :
    Calls Try.prog 11 #[.slice q n c] w (OfP args w) := by
  have HB := Lib.hid (Kit.below1 w (.cells #[.int .i64 0, .slice none 0 0, .bool false, .bool false, .slice none 0 0] 27))
  have HNe : args ≠ [] := fun e => by rw [e] at hn; simp at hn; omega
  have HR := Lib.hid (of_ok HNe hf (by rw [hn]; exact hok))
  have HSs := Lib.hid h
  obtain ⟨b, off, rfl, hlt, hu⟩ := ss_first h (by omega)
  obtain ⟨S, hS⟩ : ∃ S : ByteArray, S = ⟨(args.getD 0 []).toArray⟩ := ⟨_, rfl⟩
  have hSs : S.size ≤ 140737488351232 := by rw [hS]; simpa [ByteArray.size] using hs
  have hSl : lowL S.data.toList = nameL args := by rw [hS]; rfl
  rw [← hS] at hu
  have CF := Lib.hid (fun W => RefTab.find_any S W hSs)
  rw [hSl] at CF
  obtain ⟨m, hm⟩ : ∃ m, m = nameL args := ⟨_, rfl⟩
  rw [← hm] at CF hf hok HR
  have t0 : ((n : Int) == 0) = false := by rw [beq_eq_false_iff_ne]; omega
  have hn0 : (0 : Int) < (n : Int) := by omega
  have hu2 : (w.alloc (.cells #[.int .i64 0, .slice none 0 0, .bool false, .bool false, .slice none 0 0] 27)).cell? ⟨b, off, none⟩ = some (.string S) := by
    rw [(Kit.below1 w _).cell (p := ⟨b, off, none⟩) hlt]
    exact hu
  rw [hf] at CF
  have hkv : findV m = (findK m : Int) := (findV_at (find_name hf).1 rfl).1
  rw [hkv] at CF
  have hk56 := (find_name hf).1
  have CFit := Lib.hid (fun W => RefTab.fits_any (findK m : Int) (n : Int) W (by omega) (by omega) (by omega) (by omega))
  obtain ⟨T, hT⟩ : ∃ T : ByteArray, T = ⟨m.toArray⟩ := ⟨_, rfl⟩
  have hlow : (⟨(lowL S.data.toList).toArray⟩ : ByteArray) = T := by rw [hT, hSl, hm]
  have CL := Lib.hid (fun W => (hlow ▸ LowR.lower_ref S W (by omega) (by omega) : Calls Try.prog 21 #[.string S] W fun e w' => e = .returned (.string T) ∧ Below W.heap.size W w'))
  have hTd : T.data.toList = m := by rw [hT]
  have CK := Lib.hid (fun W (hb : Below w.heap.size w W) => rkeys_any T _ args n c W hn (h.keep hb) hz (by rw [hTd]; exact hf) (by rw [hTd]; exact hok))
  rw [hTd] at CK
  have HA := asks_of hf hok
  have hbd := hok
  unfold okL at hbd
  rw [Bool.and_eq_true] at hbd
  have tm : m = nMset → ((n : Int) % 2 == 0) = false := fun hms => by
    have h2 := hbd.2
    simp [hms] at h2
    rw [beq_eq_false_iff_ne]
    omega
  rw [hbd.1] at CFit
  have HT := Lib.hid hTd
  have HN := Lib.hid hn
  obtain ⟨k, hk⟩ : ∃ k, k = findK m := ⟨_, rfl⟩
  rw [← hk] at CF CFit hk56
  have HK := Lib.hid (show (findK m : Int) = (k : Int) by rw [hk])
  have HAs := Lib.hid HA
  clear hn h hS hs hSs hSl hu hm hkv hlow hT hTd hbd hk hok HA HNe
  have hnm : m = nKeys ∨ m = nDbsize ∨ m = nFlush ∨ m = nSub ∨ m = nPub ∨ m = nMset ∨ (m ≠ nKeys ∧ m ≠ nDbsize ∧ m ≠ nFlush ∧ m ≠ nSub ∧ m ≠ nPub ∧ m ≠ nMset) := by
    by_cases h1 : m = nKeys
    · exact Or.inl h1
    by_cases h2 : m = nDbsize
    · exact Or.inr (Or.inl h2)
    by_cases h3 : m = nFlush
    · exact Or.inr (Or.inr (Or.inl h3))
    by_cases h4 : m = nSub
    · exact Or.inr (Or.inr (Or.inr (Or.inl h4)))
    by_cases h5 : m = nPub
    · exact Or.inr (Or.inr (Or.inr (Or.inr (Or.inl h5))))
    by_cases h6 : m = nMset
    · exact Or.inr (Or.inr (Or.inr (Or.inr (Or.inr (Or.inl h6)))))
    exact Or.inr (Or.inr (Or.inr (Or.inr (Or.inr (Or.inr ⟨h1, h2, h3, h4, h5, h6⟩)))))
  rcases hnm with h1 | h1 | h1 | h1 | h1 | h1 | ⟨x1, x2, x3, x4, x5, x6⟩
  · obtain rfl : T = ⟨#[107, 101, 121, 115]⟩ := by
      have h2 := HT.out
      rw [h1] at h2
      exact ByteArray.ext (Array.toList_inj.1 h2)
    have HCh := Lib.hid (show chansL m args = [] by rw [h1]; rfl)
    have HAr := Lib.hid (show decide (m = nKeys ∨ m = nDbsize) = true by rw [h1]; rfl)
    have HAw := Lib.hid (show decide (m = nFlush) = false by rw [h1]; rfl)
    clear tm h1 HT
    go_enter Try.func11, Try.ntmps11
    go_wp2_with fail
    refine (CF.out _).mono ?_
    rintro e w1 ⟨rfl, hb1⟩
    go_wp2_with fail
    refine (CFit.out _).mono ?_
    rintro e w2 ⟨rfl, hb2⟩
    have hu3 : w2.cell? ⟨b, off, none⟩ = some (.string S) := by
      rw [hb2.cell (p := ⟨b, off, none⟩) (by have := hb1.size; have := HB.out.size; show b < _; omega), hb1.cell (p := ⟨b, off, none⟩) (by have := HB.out.size; show b < _; omega)]
      exact hu2
    have hb12 := hb1.trans (hb2.mono hb1.size)
    clear hb1 hb2 hu2 CF CFit
    go_wp2_with fail
    refine (CL.out _).mono ?_
    rintro e w3 ⟨rfl, hb3⟩
    have hb13 := hb12.trans (hb3.mono hb12.size)
    have HH3 := Lib.hid (show w3.heap[w.heap.size]? = some (.cells #[.int .i64 0, .slice none 0 0, .bool false, .bool false, .slice none 0 0] 27 (0, 0)) by rw [hb13.block w.heap.size (by simp)]; exact heap_alloc_last w _)
    have HB3 := Lib.hid (HB.out.trans (hb13.mono HB.out.size))
    have HZ3 := Lib.hid (show w.heap.size < w3.heap.size by have := hb13.size; simp at this; omega)
    have CK3 := Lib.hid (CK.out w3 HB3.out)
    clear hb12 hb3 hb13 CL HB hu3 CK
    go_wp2_with fail
    refine CK3.out.mono ?_
    rintro e w4 ⟨vk, rfl, ⟨qk, ck, rfl, hU, hge, hc1, hc2, hc3⟩, hb4⟩
    have HU4 := Lib.hid (show AnsU w3.heap.size w4 (.slice qk (keysL m args).length ck) (keysL m args) from ⟨qk, ck, rfl, hU, hge, hc1, hc2, hc3⟩)
    have HB4 := Lib.hid (HB3.out.trans (hb4.mono HB3.out.size))
    have HH4 := Lib.hid (show w4.heap[w.heap.size]? = some (.cells #[.int .i64 0, .slice none 0 0, .bool false, .bool false, .slice none 0 0] 27 (0, 0)) by rw [hb4.block w.heap.size HZ3.out]; exact HH3.out)
    have HSz4 := Lib.hid (show w3.heap.size ≤ w4.heap.size from hb4.size)
    have HZ4 := Lib.hid (show w.heap.size < w4.heap.size by have := hb4.size; have := HZ3.out; omega)
    clear CK3 hU hge hc1 hc2 hc3 hb4 HH3 HB3
    generalize hK : (keysL m args).length = K at HU4 ⊢
    clear hK
    have HB5 := Lib.hid (Kit.below1 w4 (.cells #[.int .i64 (k : Int), .slice qk K ck, .bool false, .bool false, .slice none 0 0] 27))
    have HB6 := Lib.hid (show Below w4.heap.size w4 (w4.alloc (.cells #[.int .i64 (k : Int), .slice qk K ck, .bool true, .bool false, .slice none 0 0] 27)) from Kit.below1 w4 _)
    have HD := Lib.hid (show (w4.alloc (.cells #[.int .i64 (k : Int), .slice qk K ck, .bool true, .bool false, .slice none 0 0] 27)).heap[w4.heap.size]? = some (.cells #[.int .i64 (k : Int), .slice qk K ck, .bool true, .bool false, .slice none 0 0] 27 (0, 0)) from heap_alloc_last w4 _)
    have HH6 := Lib.hid (show (w4.alloc (.cells #[.int .i64 (k : Int), .slice qk K ck, .bool true, .bool false, .slice none 0 0] 27)).heap[w.heap.size]? = some (.cells #[.int .i64 0, .slice none 0 0, .bool false, .bool false, .slice none 0 0] 27 (0, 0)) by rw [HB6.out.block w.heap.size HZ4.out]; exact HH4.out)
    have HBf := Lib.hid (show Below w.heap.size w (w4.alloc (.cells #[.int .i64 (k : Int), .slice qk K ck, .bool true, .bool false, .slice none 0 0] 27)) from HB4.out.trans (HB6.out.mono HB4.out.size))
    have HCs := Lib.hid (show (Try.prog.info? 27).map (·.size) = some (#[.int .i64 (k : Int), .slice qk K ck, .bool true, .bool false, .slice none 0 0] : Array Value).size from need_size)
    have HOn := Lib.hid (show (#[.int .i64 (k : Int), .slice qk K ck, .bool true, .bool false, .slice none 0 0] : Array Value).all (·.oneCell') = true by simp [Value.oneCell'])
    have HUf := Lib.hid (show AnsU w3.heap.size (w4.alloc (.cells #[.int .i64 (k : Int), .slice qk K ck, .bool true, .bool false, .slice none 0 0] 27)) (.slice qk K ck) (keysL m args) from HU4.out.keep HB6.out)
    clear HB5 HB6 HH4 HB4
    go_wp2_with (first | (with_reducible refine wpList_load_row rfl 27 (.tmp 8) rfl w4.heap.size rfl 27 #[.int .i64 (k : Int), .slice qk K ck, .bool true, .bool false, .slice none 0 0] (0, 0) _ HD.out Try.underlying27 rfl HCs.out ?_) | (with_reducible refine wpList_store_row rfl 27 (.tmp 2) (.tmp 71) rfl w.heap.size #[.int .i64 (k : Int), .slice qk K ck, .bool true, .bool false, .slice none 0 0] rfl rfl 27 _ HH6.out HCs.out rfl HOn.out ?_))
    exact bodyPost_ret (results_cell_slot rfl _ _ w.heap.size 27 #[.int .i64 (k : Int), .slice qk K ck, .bool true, .bool false, .slice none 0 0] (0, 0) _ (.int .i64 0) rfl (setRow_heap _ w.heap.size _ _ _ _ HH6.out) Try.underlying27 rfl HCs.out rfl) rfl (need_end HZ3.out HBf.out HR.out HK.out HUf.out (by rw [HCh.out]; exact ansS_nil _ _) HAr.out HAw.out)
  · obtain rfl : T = ⟨#[100, 98, 115, 105, 122, 101]⟩ := by
      have h2 := HT.out
      rw [h1] at h2
      exact ByteArray.ext (Array.toList_inj.1 h2)
    have HCh := Lib.hid (show chansL m args = [] by rw [h1]; rfl)
    have HAr := Lib.hid (show decide (m = nKeys ∨ m = nDbsize) = true by rw [h1]; rfl)
    have HAw := Lib.hid (show decide (m = nFlush) = false by rw [h1]; rfl)
    clear tm h1 HT
    go_enter Try.func11, Try.ntmps11
    go_wp2_with fail
    refine (CF.out _).mono ?_
    rintro e w1 ⟨rfl, hb1⟩
    go_wp2_with fail
    refine (CFit.out _).mono ?_
    rintro e w2 ⟨rfl, hb2⟩
    have hu3 : w2.cell? ⟨b, off, none⟩ = some (.string S) := by
      rw [hb2.cell (p := ⟨b, off, none⟩) (by have := hb1.size; have := HB.out.size; show b < _; omega), hb1.cell (p := ⟨b, off, none⟩) (by have := HB.out.size; show b < _; omega)]
      exact hu2
    have hb12 := hb1.trans (hb2.mono hb1.size)
    clear hb1 hb2 hu2 CF CFit
    go_wp2_with fail
    refine (CL.out _).mono ?_
    rintro e w3 ⟨rfl, hb3⟩
    have hb13 := hb12.trans (hb3.mono hb12.size)
    have HH3 := Lib.hid (show w3.heap[w.heap.size]? = some (.cells #[.int .i64 0, .slice none 0 0, .bool false, .bool false, .slice none 0 0] 27 (0, 0)) by rw [hb13.block w.heap.size (by simp)]; exact heap_alloc_last w _)
    have HB3 := Lib.hid (HB.out.trans (hb13.mono HB.out.size))
    have HZ3 := Lib.hid (show w.heap.size < w3.heap.size by have := hb13.size; simp at this; omega)
    have CK3 := Lib.hid (CK.out w3 HB3.out)
    clear hb12 hb3 hb13 CL HB hu3 CK
    go_wp2_with fail
    refine CK3.out.mono ?_
    rintro e w4 ⟨vk, rfl, ⟨qk, ck, rfl, hU, hge, hc1, hc2, hc3⟩, hb4⟩
    have HU4 := Lib.hid (show AnsU w3.heap.size w4 (.slice qk (keysL m args).length ck) (keysL m args) from ⟨qk, ck, rfl, hU, hge, hc1, hc2, hc3⟩)
    have HB4 := Lib.hid (HB3.out.trans (hb4.mono HB3.out.size))
    have HH4 := Lib.hid (show w4.heap[w.heap.size]? = some (.cells #[.int .i64 0, .slice none 0 0, .bool false, .bool false, .slice none 0 0] 27 (0, 0)) by rw [hb4.block w.heap.size HZ3.out]; exact HH3.out)
    have HSz4 := Lib.hid (show w3.heap.size ≤ w4.heap.size from hb4.size)
    have HZ4 := Lib.hid (show w.heap.size < w4.heap.size by have := hb4.size; have := HZ3.out; omega)
    clear CK3 hU hge hc1 hc2 hc3 hb4 HH3 HB3
    generalize hK : (keysL m args).length = K at HU4 ⊢
    clear hK
    have HB5 := Lib.hid (Kit.below1 w4 (.cells #[.int .i64 (k : Int), .slice qk K ck, .bool false, .bool false, .slice none 0 0] 27))
    have HB6 := Lib.hid (show Below w4.heap.size w4 (w4.alloc (.cells #[.int .i64 (k : Int), .slice qk K ck, .bool true, .bool false, .slice none 0 0] 27)) from Kit.below1 w4 _)
    have HD := Lib.hid (show (w4.alloc (.cells #[.int .i64 (k : Int), .slice qk K ck, .bool true, .bool false, .slice none 0 0] 27)).heap[w4.heap.size]? = some (.cells #[.int .i64 (k : Int), .slice qk K ck, .bool true, .bool false, .slice none 0 0] 27 (0, 0)) from heap_alloc_last w4 _)
    have HH6 := Lib.hid (show (w4.alloc (.cells #[.int .i64 (k : Int), .slice qk K ck, .bool true, .bool false, .slice none 0 0] 27)).heap[w.heap.size]? = some (.cells #[.int .i64 0, .slice none 0 0, .bool false, .bool false, .slice none 0 0] 27 (0, 0)) by rw [HB6.out.block w.heap.size HZ4.out]; exact HH4.out)
    have HBf := Lib.hid (show Below w.heap.size w (w4.alloc (.cells #[.int .i64 (k : Int), .slice qk K ck, .bool true, .bool false, .slice none 0 0] 27)) from HB4.out.trans (HB6.out.mono HB4.out.size))
    have HCs := Lib.hid (show (Try.prog.info? 27).map (·.size) = some (#[.int .i64 (k : Int), .slice qk K ck, .bool true, .bool false, .slice none 0 0] : Array Value).size from need_size)
    have HOn := Lib.hid (show (#[.int .i64 (k : Int), .slice qk K ck, .bool true, .bool false, .slice none 0 0] : Array Value).all (·.oneCell') = true by simp [Value.oneCell'])
    have HUf := Lib.hid (show AnsU w3.heap.size (w4.alloc (.cells #[.int .i64 (k : Int), .slice qk K ck, .bool true, .bool false, .slice none 0 0] 27)) (.slice qk K ck) (keysL m args) from HU4.out.keep HB6.out)
    clear HB5 HB6 HH4 HB4
    go_wp2_with (first | (with_reducible refine wpList_load_row rfl 27 (.tmp 8) rfl w4.heap.size rfl 27 #[.int .i64 (k : Int), .slice qk K ck, .bool true, .bool false, .slice none 0 0] (0, 0) _ HD.out Try.underlying27 rfl HCs.out ?_) | (with_reducible refine wpList_store_row rfl 27 (.tmp 2) (.tmp 71) rfl w.heap.size #[.int .i64 (k : Int), .slice qk K ck, .bool true, .bool false, .slice none 0 0] rfl rfl 27 _ HH6.out HCs.out rfl HOn.out ?_))
    exact bodyPost_ret (results_cell_slot rfl _ _ w.heap.size 27 #[.int .i64 (k : Int), .slice qk K ck, .bool true, .bool false, .slice none 0 0] (0, 0) _ (.int .i64 0) rfl (setRow_heap _ w.heap.size _ _ _ _ HH6.out) Try.underlying27 rfl HCs.out rfl) rfl (need_end HZ3.out HBf.out HR.out HK.out HUf.out (by rw [HCh.out]; exact ansS_nil _ _) HAr.out HAw.out)
  · obtain rfl : T = ⟨#[102, 108, 117, 115, 104, 97, 108, 108]⟩ := by
      have h2 := HT.out
      rw [h1] at h2
      exact ByteArray.ext (Array.toList_inj.1 h2)
    have HCh := Lib.hid (show chansL m args = [] by rw [h1]; rfl)
    have HAr := Lib.hid (show decide (m = nKeys ∨ m = nDbsize) = false by rw [h1]; rfl)
    have HAw := Lib.hid (show decide (m = nFlush) = true by rw [h1]; rfl)
    clear tm h1 HT
    go_enter Try.func11, Try.ntmps11
    go_wp2_with fail
    refine (CF.out _).mono ?_
    rintro e w1 ⟨rfl, hb1⟩
    go_wp2_with fail
    refine (CFit.out _).mono ?_
    rintro e w2 ⟨rfl, hb2⟩
    have hu3 : w2.cell? ⟨b, off, none⟩ = some (.string S) := by
      rw [hb2.cell (p := ⟨b, off, none⟩) (by have := hb1.size; have := HB.out.size; show b < _; omega), hb1.cell (p := ⟨b, off, none⟩) (by have := HB.out.size; show b < _; omega)]
      exact hu2
    have hb12 := hb1.trans (hb2.mono hb1.size)
    clear hb1 hb2 hu2 CF CFit
    go_wp2_with fail
    refine (CL.out _).mono ?_
    rintro e w3 ⟨rfl, hb3⟩
    have hb13 := hb12.trans (hb3.mono hb12.size)
    have HH3 := Lib.hid (show w3.heap[w.heap.size]? = some (.cells #[.int .i64 0, .slice none 0 0, .bool false, .bool false, .slice none 0 0] 27 (0, 0)) by rw [hb13.block w.heap.size (by simp)]; exact heap_alloc_last w _)
    have HB3 := Lib.hid (HB.out.trans (hb13.mono HB.out.size))
    have HZ3 := Lib.hid (show w.heap.size < w3.heap.size by have := hb13.size; simp at this; omega)
    have CK3 := Lib.hid (CK.out w3 HB3.out)
    clear hb12 hb3 hb13 CL HB hu3 CK
    go_wp2_with fail
    refine CK3.out.mono ?_
    rintro e w4 ⟨vk, rfl, ⟨qk, ck, rfl, hU, hge, hc1, hc2, hc3⟩, hb4⟩
    have HU4 := Lib.hid (show AnsU w3.heap.size w4 (.slice qk (keysL m args).length ck) (keysL m args) from ⟨qk, ck, rfl, hU, hge, hc1, hc2, hc3⟩)
    have HB4 := Lib.hid (HB3.out.trans (hb4.mono HB3.out.size))
    have HH4 := Lib.hid (show w4.heap[w.heap.size]? = some (.cells #[.int .i64 0, .slice none 0 0, .bool false, .bool false, .slice none 0 0] 27 (0, 0)) by rw [hb4.block w.heap.size HZ3.out]; exact HH3.out)
    have HSz4 := Lib.hid (show w3.heap.size ≤ w4.heap.size from hb4.size)
    have HZ4 := Lib.hid (show w.heap.size < w4.heap.size by have := hb4.size; have := HZ3.out; omega)
    clear CK3 hU hge hc1 hc2 hc3 hb4 HH3 HB3
    generalize hK : (keysL m args).length = K at HU4 ⊢
    clear hK
    have HB5 := Lib.hid (Kit.below1 w4 (.cells #[.int .i64 (k : Int), .slice qk K ck, .bool false, .bool false, .slice none 0 0] 27))
    have HB6 := Lib.hid (show Below w4.heap.size w4 (w4.alloc (.cells #[.int .i64 (k : Int), .slice qk K ck, .bool false, .bool true, .slice none 0 0] 27)) from Kit.below1 w4 _)
    have HD := Lib.hid (show (w4.alloc (.cells #[.int .i64 (k : Int), .slice qk K ck, .bool false, .bool true, .slice none 0 0] 27)).heap[w4.heap.size]? = some (.cells #[.int .i64 (k : Int), .slice qk K ck, .bool false, .bool true, .slice none 0 0] 27 (0, 0)) from heap_alloc_last w4 _)
    have HH6 := Lib.hid (show (w4.alloc (.cells #[.int .i64 (k : Int), .slice qk K ck, .bool false, .bool true, .slice none 0 0] 27)).heap[w.heap.size]? = some (.cells #[.int .i64 0, .slice none 0 0, .bool false, .bool false, .slice none 0 0] 27 (0, 0)) by rw [HB6.out.block w.heap.size HZ4.out]; exact HH4.out)
    have HBf := Lib.hid (show Below w.heap.size w (w4.alloc (.cells #[.int .i64 (k : Int), .slice qk K ck, .bool false, .bool true, .slice none 0 0] 27)) from HB4.out.trans (HB6.out.mono HB4.out.size))
    have HCs := Lib.hid (show (Try.prog.info? 27).map (·.size) = some (#[.int .i64 (k : Int), .slice qk K ck, .bool false, .bool true, .slice none 0 0] : Array Value).size from need_size)
    have HOn := Lib.hid (show (#[.int .i64 (k : Int), .slice qk K ck, .bool false, .bool true, .slice none 0 0] : Array Value).all (·.oneCell') = true by simp [Value.oneCell'])
    have HUf := Lib.hid (show AnsU w3.heap.size (w4.alloc (.cells #[.int .i64 (k : Int), .slice qk K ck, .bool false, .bool true, .slice none 0 0] 27)) (.slice qk K ck) (keysL m args) from HU4.out.keep HB6.out)
    clear HB5 HB6 HH4 HB4
    go_wp2_with (first | (with_reducible refine wpList_load_row rfl 27 (.tmp 8) rfl w4.heap.size rfl 27 #[.int .i64 (k : Int), .slice qk K ck, .bool false, .bool true, .slice none 0 0] (0, 0) _ HD.out Try.underlying27 rfl HCs.out ?_) | (with_reducible refine wpList_store_row rfl 27 (.tmp 2) (.tmp 71) rfl w.heap.size #[.int .i64 (k : Int), .slice qk K ck, .bool false, .bool true, .slice none 0 0] rfl rfl 27 _ HH6.out HCs.out rfl HOn.out ?_))
    exact bodyPost_ret (results_cell_slot rfl _ _ w.heap.size 27 #[.int .i64 (k : Int), .slice qk K ck, .bool false, .bool true, .slice none 0 0] (0, 0) _ (.int .i64 0) rfl (setRow_heap _ w.heap.size _ _ _ _ HH6.out) Try.underlying27 rfl HCs.out rfl) rfl (need_end HZ3.out HBf.out HR.out HK.out HUf.out (by rw [HCh.out]; exact ansS_nil _ _) HAr.out HAw.out)
  · obtain rfl : T = ⟨#[115, 117, 98, 115, 99, 114, 105, 98, 101]⟩ := by
      have h2 := HT.out
      rw [h1] at h2
      exact ByteArray.ext (Array.toList_inj.1 h2)
    have HCh := Lib.hid (show chansL m args = args.drop 1 by rw [h1]; rfl)
    have HAr := Lib.hid (show decide (m = nKeys ∨ m = nDbsize) = false by rw [h1]; rfl)
    have HAw := Lib.hid (show decide (m = nFlush) = false by rw [h1]; rfl)
    have hn2 := HAs.out.2.2.2 (Or.inr h1)
    clear tm h1 HT
    go_enter Try.func11, Try.ntmps11
    go_wp2_with fail
    refine (CF.out _).mono ?_
    rintro e w1 ⟨rfl, hb1⟩
    go_wp2_with fail
    refine (CFit.out _).mono ?_
    rintro e w2 ⟨rfl, hb2⟩
    have hu3 : w2.cell? ⟨b, off, none⟩ = some (.string S) := by
      rw [hb2.cell (p := ⟨b, off, none⟩) (by have := hb1.size; have := HB.out.size; show b < _; omega), hb1.cell (p := ⟨b, off, none⟩) (by have := HB.out.size; show b < _; omega)]
      exact hu2
    have hb12 := hb1.trans (hb2.mono hb1.size)
    clear hb1 hb2 hu2 CF CFit
    go_wp2_with fail
    refine (CL.out _).mono ?_
    rintro e w3 ⟨rfl, hb3⟩
    have hb13 := hb12.trans (hb3.mono hb12.size)
    have HH3 := Lib.hid (show w3.heap[w.heap.size]? = some (.cells #[.int .i64 0, .slice none 0 0, .bool false, .bool false, .slice none 0 0] 27 (0, 0)) by rw [hb13.block w.heap.size (by simp)]; exact heap_alloc_last w _)
    have HB3 := Lib.hid (HB.out.trans (hb13.mono HB.out.size))
    have HZ3 := Lib.hid (show w.heap.size < w3.heap.size by have := hb13.size; simp at this; omega)
    have CK3 := Lib.hid (CK.out w3 HB3.out)
    clear hb12 hb3 hb13 CL HB hu3 CK
    go_wp2_with fail
    refine CK3.out.mono ?_
    rintro e w4 ⟨vk, rfl, ⟨qk, ck, rfl, hU, hge, hc1, hc2, hc3⟩, hb4⟩
    have HU4 := Lib.hid (show AnsU w3.heap.size w4 (.slice qk (keysL m args).length ck) (keysL m args) from ⟨qk, ck, rfl, hU, hge, hc1, hc2, hc3⟩)
    have HB4 := Lib.hid (HB3.out.trans (hb4.mono HB3.out.size))
    have HH4 := Lib.hid (show w4.heap[w.heap.size]? = some (.cells #[.int .i64 0, .slice none 0 0, .bool false, .bool false, .slice none 0 0] 27 (0, 0)) by rw [hb4.block w.heap.size HZ3.out]; exact HH3.out)
    have HSz4 := Lib.hid (show w3.heap.size ≤ w4.heap.size from hb4.size)
    have HZ4 := Lib.hid (show w.heap.size < w4.heap.size by have := hb4.size; have := HZ3.out; omega)
    clear CK3 hU hge hc1 hc2 hc3 hb4 HH3 HB3
    generalize hK : (keysL m args).length = K at HU4 ⊢
    clear hK
    have h11 : (1 : Int) ≤ (n : Int) := by omega
    have hcx : ¬ c = 1 := by omega
    obtain ⟨N1, hN1⟩ : ∃ N1, n - 1 = N1 := ⟨_, rfl⟩
    obtain ⟨C1, hC1⟩ : ∃ C1, c - 1 = C1 := ⟨_, rfl⟩
    have HN1 := Lib.hid (show (args.drop 1).length = N1 by rw [List.length_drop, HN.out, hN1])
    have HO1 := Lib.hid (show OwnS (w4.alloc (.cells #[.int .i64 (k : Int), .slice qk K ck, .bool false, .bool false, .slice none 0 0] 27)).heap.size ((w4.alloc (.cells #[.int .i64 (k : Int), .slice qk K ck, .bool false, .bool false, .slice none 0 0] 27)).alloc (.cells #[] 9)) (.slice (some ⟨w4.heap.size + 1, 0, none⟩) 0 0) [] from ownS_new (w4.alloc (.cells #[.int .i64 (k : Int), .slice qk K ck, .bool false, .bool false, .slice none 0 0] 27)) (w4.alloc (.cells #[.int .i64 (k : Int), .slice qk K ck, .bool false, .bool false, .slice none 0 0] 27)) _ (by simp) (Nat.le_refl _))
    have HBx := Lib.hid (show Below (w4.alloc (.cells #[.int .i64 (k : Int), .slice qk K ck, .bool false, .bool false, .slice none 0 0] 27)).heap.size (w4.alloc (.cells #[.int .i64 (k : Int), .slice qk K ck, .bool false, .bool false, .slice none 0 0] 27)) ((w4.alloc (.cells #[.int .i64 (k : Int), .slice qk K ck, .bool false, .bool false, .slice none 0 0] 27)).alloc (.cells #[] 9)) from Kit.below1 _ _)
    have HM := Lib.hid (show Ss ((w4.alloc (.cells #[.int .i64 (k : Int), .slice qk K ck, .bool false, .bool false, .slice none 0 0] 27)).alloc (.cells #[] 9)) (some ⟨b, off + 1, none⟩) (args.drop 1) from by
      have h1 := ((HSs.out.keep HB4.out).keep (Kit.below1 w4 (.cells #[.int .i64 (k : Int), .slice qk K ck, .bool false, .bool false, .slice none 0 0] 27))).keep (Kit.below1 _ (.cells #[] 9))
      have h2 := Ss.drop h1 1 (by rw [HN.out]; omega) c (by rw [HN.out]; exact hcap)
      unfold StrT.partAt at h2
      rw [if_neg hcx] at h2
      exact h2)
    have HSz1 := Lib.hid (show ([] : List (List UInt8)).length + N1 ≤ 2097152 by simp; omega)
    have HC0 := Lib.hid (show (w4.alloc (.cells #[.int .i64 (k : Int), .slice qk K ck, .bool false, .bool false, .slice none 0 0] 27)).cell? ⟨w4.heap.size, 4, none⟩ = some (.slice none 0 0) by rw [cell_of_row _ _ _ _ 27 _ (heap_alloc_last w4 _)]; rfl)
    have HF0 := Lib.hid (show (w4.alloc (.cells #[.int .i64 (k : Int), .slice qk K ck, .bool false, .bool false, .slice none 0 0] 27)).frozen? ⟨w4.heap.size, 4, none⟩ = false from frozen_of_row _ _ _ _ _ (heap_alloc_last w4 _))
    have HD0 := Lib.hid (show (w4.alloc (.cells #[.int .i64 (k : Int), .slice qk K ck, .bool false, .bool false, .slice none 0 0] 27)).heap[w4.heap.size]? = some (.cells #[.int .i64 (k : Int), .slice qk K ck, .bool false, .bool false, .slice none 0 0] 27 (0, 0)) from heap_alloc_last w4 _)
    have HL5 := Lib.hid (show w4.heap.size < (w4.alloc (.cells #[.int .i64 (k : Int), .slice qk K ck, .bool false, .bool false, .slice none 0 0] 27)).heap.size by simp)
    have HB5 := Lib.hid (show Below w4.heap.size w4 (w4.alloc (.cells #[.int .i64 (k : Int), .slice qk K ck, .bool false, .bool false, .slice none 0 0] 27)) from Kit.below1 w4 _)
    go_wp2_with (first
      | (at_builtin; refine wpList_append_ss (w0 := (w4.alloc (.cells #[.int .i64 (k : Int), .slice qk K ck, .bool false, .bool false, .slice none 0 0] 27))) rfl (.tmp 59) (.tmp 61) rfl _ [] rfl HO1.out HBx.out (some ⟨b, off + 1, none⟩) (args.drop 1) _ _ rfl HN1.out HM.out (fun e => by cases e) HSz1.out _ rfl ?_
         intro v' w7 hown7 hb7
         obtain ⟨q7, c7, hv7, hS7, hge7, hc71, hc72, hc73⟩ := ownS_ans hown7
         have HA7 := Lib.hid (show AnsS (w4.alloc (.cells #[.int .i64 (k : Int), .slice qk K ck, .bool false, .bool false, .slice none 0 0] 27)).heap.size w7 (.slice q7 N1 c7) (args.drop 1) from ⟨q7, c7, by rw [HN1.out], hS7, hge7, hc71, hc72, hc73⟩)
         have hv8 : v' = .slice q7 N1 c7 := by rw [hv7]; exact congrArg (fun x => Value.slice q7 x c7) HN1.out
         clear hv7 hS7 hge7 hc71 hc72 hc73 hown7
         subst hv8
         have hcell7 : w7.cell? ⟨w4.heap.size, 4, none⟩ = some (.slice none 0 0) := by rw [hb7.cell (p := ⟨w4.heap.size, 4, none⟩) HL5.out]; exact HC0.out
         have hfr7 : w7.frozen? ⟨w4.heap.size, 4, none⟩ = false := by rw [hb7.frozen (p := ⟨w4.heap.size, 4, none⟩) HL5.out]; exact HF0.out
         have HB7 := Lib.hid (show Below w4.heap.size w4 w7 from HB5.out.trans (hb7.mono HB5.out.size))
         have HB6 := Lib.hid (show Below w4.heap.size w4 (w7.setCell ⟨w4.heap.size, 4, none⟩ (.slice q7 N1 c7)) from HB7.out.setCell (Nat.le_refl _) _)
         have HD := Lib.hid (show (w7.setCell ⟨w4.heap.size, 4, none⟩ (.slice q7 N1 c7)).heap[w4.heap.size]? = some (.cells #[.int .i64 (k : Int), .slice qk K ck, .bool false, .bool false, .slice q7 N1 c7] 27 (0, 0)) from heap_setCell_same _ _ 4 _ _ _ (by rw [hb7.block _ HL5.out]; exact HD0.out))
         have HH6 := Lib.hid (show (w7.setCell ⟨w4.heap.size, 4, none⟩ (.slice q7 N1 c7)).heap[w.heap.size]? = some (.cells #[.int .i64 0, .slice none 0 0, .bool false, .bool false, .slice none 0 0] 27 (0, 0)) by rw [HB6.out.block w.heap.size HZ4.out]; exact HH4.out)
         have HBf := Lib.hid (show Below w.heap.size w (w7.setCell ⟨w4.heap.size, 4, none⟩ (.slice q7 N1 c7)) from HB4.out.trans (HB6.out.mono HB4.out.size))
         have HCs := Lib.hid (show (Try.prog.info? 27).map (·.size) = some (#[.int .i64 (k : Int), .slice qk K ck, .bool false, .bool false, .slice q7 N1 c7] : Array Value).size from need_size)
         have HOn := Lib.hid (show (#[.int .i64 (k : Int), .slice qk K ck, .bool false, .bool false, .slice q7 N1 c7] : Array Value).all (·.oneCell') = true by simp [Value.oneCell'])
         have HUf := Lib.hid (show AnsU w3.heap.size (w7.setCell ⟨w4.heap.size, 4, none⟩ (.slice q7 N1 c7)) (.slice qk K ck) (keysL m args) from HU4.out.keep HB6.out)
         have HSf := Lib.hid (show AnsS w3.heap.size (w7.setCell ⟨w4.heap.size, 4, none⟩ (.slice q7 N1 c7)) (.slice q7 N1 c7) (chansL m args) from by
           rw [HCh.out]
           exact ansS_low (ansS_high HA7.out (fun j hj => heap_setCell_other _ _ _ _ (by have := HL5.out; show j ≠ w4.heap.size; omega)) (by simp)) (by have := HL5.out; have := HSz4.out; omega))
         clear hb7 HB6 HB7 HA7)
      | (with_reducible refine wpList_load_row rfl 27 (.tmp 8) rfl w4.heap.size rfl 27 #[.int .i64 (k : Int), .slice qk K ck, .bool false, .bool false, .slice q7 N1 c7] (0, 0) _ HD.out Try.underlying27 rfl HCs.out ?_)
      | (with_reducible refine wpList_store_row rfl 27 (.tmp 2) (.tmp 71) rfl w.heap.size #[.int .i64 (k : Int), .slice qk K ck, .bool false, .bool false, .slice q7 N1 c7] rfl rfl 27 _ HH6.out HCs.out rfl HOn.out ?_))
    exact bodyPost_ret (results_cell_slot rfl _ _ w.heap.size 27 #[.int .i64 (k : Int), .slice qk K ck, .bool false, .bool false, .slice q7 N1 c7] (0, 0) _ (.int .i64 0) rfl (setRow_heap _ w.heap.size _ _ _ _ HH6.out) Try.underlying27 rfl HCs.out rfl) rfl (need_end HZ3.out HBf.out HR.out HK.out HUf.out HSf.out HAr.out HAw.out)
  · obtain rfl : T = ⟨#[112, 117, 98, 108, 105, 115, 104]⟩ := by
      have h2 := HT.out
      rw [h1] at h2
      exact ByteArray.ext (Array.toList_inj.1 h2)
    have HCh := Lib.hid (show chansL m args = [args.getD 1 []] by rw [h1]; rfl)
    have HAr := Lib.hid (show decide (m = nKeys ∨ m = nDbsize) = false by rw [h1]; rfl)
    have HAw := Lib.hid (show decide (m = nFlush) = false by rw [h1]; rfl)
    have hn2 := HAs.out.2.2.2 (Or.inl h1)
    clear tm h1 HT
    go_enter Try.func11, Try.ntmps11
    go_wp2_with fail
    refine (CF.out _).mono ?_
    rintro e w1 ⟨rfl, hb1⟩
    go_wp2_with fail
    refine (CFit.out _).mono ?_
    rintro e w2 ⟨rfl, hb2⟩
    have hu3 : w2.cell? ⟨b, off, none⟩ = some (.string S) := by
      rw [hb2.cell (p := ⟨b, off, none⟩) (by have := hb1.size; have := HB.out.size; show b < _; omega), hb1.cell (p := ⟨b, off, none⟩) (by have := HB.out.size; show b < _; omega)]
      exact hu2
    have hb12 := hb1.trans (hb2.mono hb1.size)
    clear hb1 hb2 hu2 CF CFit
    go_wp2_with fail
    refine (CL.out _).mono ?_
    rintro e w3 ⟨rfl, hb3⟩
    have hb13 := hb12.trans (hb3.mono hb12.size)
    have HH3 := Lib.hid (show w3.heap[w.heap.size]? = some (.cells #[.int .i64 0, .slice none 0 0, .bool false, .bool false, .slice none 0 0] 27 (0, 0)) by rw [hb13.block w.heap.size (by simp)]; exact heap_alloc_last w _)
    have HB3 := Lib.hid (HB.out.trans (hb13.mono HB.out.size))
    have HZ3 := Lib.hid (show w.heap.size < w3.heap.size by have := hb13.size; simp at this; omega)
    have CK3 := Lib.hid (CK.out w3 HB3.out)
    clear hb12 hb3 hb13 CL HB hu3 CK
    go_wp2_with fail
    refine CK3.out.mono ?_
    rintro e w4 ⟨vk, rfl, ⟨qk, ck, rfl, hU, hge, hc1, hc2, hc3⟩, hb4⟩
    have HU4 := Lib.hid (show AnsU w3.heap.size w4 (.slice qk (keysL m args).length ck) (keysL m args) from ⟨qk, ck, rfl, hU, hge, hc1, hc2, hc3⟩)
    have HB4 := Lib.hid (HB3.out.trans (hb4.mono HB3.out.size))
    have HH4 := Lib.hid (show w4.heap[w.heap.size]? = some (.cells #[.int .i64 0, .slice none 0 0, .bool false, .bool false, .slice none 0 0] 27 (0, 0)) by rw [hb4.block w.heap.size HZ3.out]; exact HH3.out)
    have HSz4 := Lib.hid (show w3.heap.size ≤ w4.heap.size from hb4.size)
    have HZ4 := Lib.hid (show w.heap.size < w4.heap.size by have := hb4.size; have := HZ3.out; omega)
    clear CK3 hU hge hc1 hc2 hc3 hb4 HH3 HB3
    generalize hK : (keysL m args).length = K at HU4 ⊢
    clear hK
    obtain ⟨b1, off1, e1, -, hv⟩ := ss_cell (HSs.out.keep HB4.out) 1 (by rw [HN.out]; omega)
    injection e1 with e1
    injection e1 with e2 e3 e4
    subst e2 e3
    clear e4
    obtain ⟨A, hA⟩ : ∃ A : ByteArray, A = ⟨(args.getD 1 []).toArray⟩ := ⟨_, rfl⟩
    rw [← hA] at hv
    have HA := Lib.hid hA
    clear hA
    have h11 : (1 : Int) < (n : Int) := by omega
    have hv2 : (w4.alloc (.cells #[.int .i64 (k : Int), .slice qk K ck, .bool false, .bool false, .slice none 0 0] 27)).cell? ⟨b, off + 1, none⟩ = some (.string A) := by
      rw [(Kit.below1 w4 _).cell (p := ⟨b, off + 1, none⟩) (by have := HB4.out.size; show b < _; omega)]
      exact hv
    clear hv
    have HSz := Lib.hid (show w3.heap.size ≤ w4.heap.size from HSz4.out)
    have HB6 := Lib.hid (show Below w4.heap.size w4 ((w4.alloc (.cells #[.int .i64 (k : Int), .slice qk K ck, .bool false, .bool false, .slice (some ⟨w4.heap.size + 1, 0, none⟩) 1 1] 27)).alloc (.cells #[.string A] 9)) from (Kit.below1 w4 _).alloc (by simp) _)
    have HD := Lib.hid (show ((w4.alloc (.cells #[.int .i64 (k : Int), .slice qk K ck, .bool false, .bool false, .slice (some ⟨w4.heap.size + 1, 0, none⟩) 1 1] 27)).alloc (.cells #[.string A] 9)).heap[w4.heap.size]? = some (.cells #[.int .i64 (k : Int), .slice qk K ck, .bool false, .bool false, .slice (some ⟨w4.heap.size + 1, 0, none⟩) 1 1] 27 (0, 0)) from by rw [Below.heap_alloc _ _ w4.heap.size (by simp)]; exact heap_alloc_last w4 _)
    have HH6 := Lib.hid (show ((w4.alloc (.cells #[.int .i64 (k : Int), .slice qk K ck, .bool false, .bool false, .slice (some ⟨w4.heap.size + 1, 0, none⟩) 1 1] 27)).alloc (.cells #[.string A] 9)).heap[w.heap.size]? = some (.cells #[.int .i64 0, .slice none 0 0, .bool false, .bool false, .slice none 0 0] 27 (0, 0)) by rw [HB6.out.block w.heap.size HZ4.out]; exact HH4.out)
    have HBf := Lib.hid (show Below w.heap.size w ((w4.alloc (.cells #[.int .i64 (k : Int), .slice qk K ck, .bool false, .bool false, .slice (some ⟨w4.heap.size + 1, 0, none⟩) 1 1] 27)).alloc (.cells #[.string A] 9)) from HB4.out.trans (HB6.out.mono HB4.out.size))
    have HCs := Lib.hid (show (Try.prog.info? 27).map (·.size) = some (#[.int .i64 (k : Int), .slice qk K ck, .bool false, .bool false, .slice (some ⟨w4.heap.size + 1, 0, none⟩) 1 1] : Array Value).size from need_size)
    have HOn := Lib.hid (show (#[.int .i64 (k : Int), .slice qk K ck, .bool false, .bool false, .slice (some ⟨w4.heap.size + 1, 0, none⟩) 1 1] : Array Value).all (·.oneCell') = true by simp [Value.oneCell'])
    have HUf := Lib.hid (show AnsU w3.heap.size ((w4.alloc (.cells #[.int .i64 (k : Int), .slice qk K ck, .bool false, .bool false, .slice (some ⟨w4.heap.size + 1, 0, none⟩) 1 1] 27)).alloc (.cells #[.string A] 9)) (.slice qk K ck) (keysL m args) from HU4.out.keep HB6.out)
    have HSf := Lib.hid (show AnsS w3.heap.size ((w4.alloc (.cells #[.int .i64 (k : Int), .slice qk K ck, .bool false, .bool false, .slice (some ⟨w4.heap.size + 1, 0, none⟩) 1 1] 27)).alloc (.cells #[.string A] 9)) (.slice (some ⟨w4.heap.size + 1, 0, none⟩) 1 1) (chansL m args) from by rw [HCh.out]; exact ans_one' _ _ (by simp) A _ HA.out (by have := HSz.out; simp; omega))
    clear HB6 HH4 HB4
    go_wp2_with (first | (with_reducible refine wpList_load_row rfl 27 (.tmp 8) rfl w4.heap.size rfl 27 #[.int .i64 (k : Int), .slice qk K ck, .bool false, .bool false, .slice (some ⟨w4.heap.size + 1, 0, none⟩) 1 1] (0, 0) _ HD.out Try.underlying27 rfl HCs.out ?_) | (with_reducible refine wpList_store_row rfl 27 (.tmp 2) (.tmp 71) rfl w.heap.size #[.int .i64 (k : Int), .slice qk K ck, .bool false, .bool false, .slice (some ⟨w4.heap.size + 1, 0, none⟩) 1 1] rfl rfl 27 _ HH6.out HCs.out rfl HOn.out ?_))
    exact bodyPost_ret (results_cell_slot rfl _ _ w.heap.size 27 #[.int .i64 (k : Int), .slice qk K ck, .bool false, .bool false, .slice (some ⟨w4.heap.size + 1, 0, none⟩) 1 1] (0, 0) _ (.int .i64 0) rfl (setRow_heap _ w.heap.size _ _ _ _ HH6.out) Try.underlying27 rfl HCs.out rfl) rfl (need_end HZ3.out HBf.out HR.out HK.out HUf.out HSf.out HAr.out HAw.out)
  · obtain rfl : T = ⟨#[109, 115, 101, 116]⟩ := by
      have h2 := HT.out
      rw [h1] at h2
      exact ByteArray.ext (Array.toList_inj.1 h2)
    have tm2 := tm h1
    have HCh := Lib.hid (show chansL m args = [] by rw [h1]; rfl)
    have HAr := Lib.hid (show decide (m = nKeys ∨ m = nDbsize) = false by rw [h1]; rfl)
    have HAw := Lib.hid (show decide (m = nFlush) = false by rw [h1]; rfl)
    clear tm h1 HT
    go_enter Try.func11, Try.ntmps11
    go_wp2_with fail
    refine (CF.out _).mono ?_
    rintro e w1 ⟨rfl, hb1⟩
    go_wp2_with fail
    refine (CFit.out _).mono ?_
    rintro e w2 ⟨rfl, hb2⟩
    have hu3 : w2.cell? ⟨b, off, none⟩ = some (.string S) := by
      rw [hb2.cell (p := ⟨b, off, none⟩) (by have := hb1.size; have := HB.out.size; show b < _; omega), hb1.cell (p := ⟨b, off, none⟩) (by have := HB.out.size; show b < _; omega)]
      exact hu2
    have hb12 := hb1.trans (hb2.mono hb1.size)
    clear hb1 hb2 hu2 CF CFit
    go_wp2_with fail
    refine (CL.out _).mono ?_
    rintro e w3 ⟨rfl, hb3⟩
    have hb13 := hb12.trans (hb3.mono hb12.size)
    have HH3 := Lib.hid (show w3.heap[w.heap.size]? = some (.cells #[.int .i64 0, .slice none 0 0, .bool false, .bool false, .slice none 0 0] 27 (0, 0)) by rw [hb13.block w.heap.size (by simp)]; exact heap_alloc_last w _)
    have HB3 := Lib.hid (HB.out.trans (hb13.mono HB.out.size))
    have HZ3 := Lib.hid (show w.heap.size < w3.heap.size by have := hb13.size; simp at this; omega)
    have CK3 := Lib.hid (CK.out w3 HB3.out)
    clear hb12 hb3 hb13 CL HB hu3 CK
    go_wp2_with fail
    refine CK3.out.mono ?_
    rintro e w4 ⟨vk, rfl, ⟨qk, ck, rfl, hU, hge, hc1, hc2, hc3⟩, hb4⟩
    have HU4 := Lib.hid (show AnsU w3.heap.size w4 (.slice qk (keysL m args).length ck) (keysL m args) from ⟨qk, ck, rfl, hU, hge, hc1, hc2, hc3⟩)
    have HB4 := Lib.hid (HB3.out.trans (hb4.mono HB3.out.size))
    have HH4 := Lib.hid (show w4.heap[w.heap.size]? = some (.cells #[.int .i64 0, .slice none 0 0, .bool false, .bool false, .slice none 0 0] 27 (0, 0)) by rw [hb4.block w.heap.size HZ3.out]; exact HH3.out)
    have HSz4 := Lib.hid (show w3.heap.size ≤ w4.heap.size from hb4.size)
    have HZ4 := Lib.hid (show w.heap.size < w4.heap.size by have := hb4.size; have := HZ3.out; omega)
    clear CK3 hU hge hc1 hc2 hc3 hb4 HH3 HB3
    generalize hK : (keysL m args).length = K at HU4 ⊢
    clear hK
    have HB5 := Lib.hid (Kit.below1 w4 (.cells #[.int .i64 (k : Int), .slice qk K ck, .bool false, .bool false, .slice none 0 0] 27))
    have HB6 := HB5
    have HD := Lib.hid (show (w4.alloc (.cells #[.int .i64 (k : Int), .slice qk K ck, .bool false, .bool false, .slice none 0 0] 27)).heap[w4.heap.size]? = some (.cells #[.int .i64 (k : Int), .slice qk K ck, .bool false, .bool false, .slice none 0 0] 27 (0, 0)) from heap_alloc_last w4 _)
    have HH6 := Lib.hid (show (w4.alloc (.cells #[.int .i64 (k : Int), .slice qk K ck, .bool false, .bool false, .slice none 0 0] 27)).heap[w.heap.size]? = some (.cells #[.int .i64 0, .slice none 0 0, .bool false, .bool false, .slice none 0 0] 27 (0, 0)) by rw [HB6.out.block w.heap.size HZ4.out]; exact HH4.out)
    have HBf := Lib.hid (show Below w.heap.size w (w4.alloc (.cells #[.int .i64 (k : Int), .slice qk K ck, .bool false, .bool false, .slice none 0 0] 27)) from HB4.out.trans (HB6.out.mono HB4.out.size))
    have HCs := Lib.hid (show (Try.prog.info? 27).map (·.size) = some (#[.int .i64 (k : Int), .slice qk K ck, .bool false, .bool false, .slice none 0 0] : Array Value).size from need_size)
    have HOn := Lib.hid (show (#[.int .i64 (k : Int), .slice qk K ck, .bool false, .bool false, .slice none 0 0] : Array Value).all (·.oneCell') = true by simp [Value.oneCell'])
    have HUf := Lib.hid (show AnsU w3.heap.size (w4.alloc (.cells #[.int .i64 (k : Int), .slice qk K ck, .bool false, .bool false, .slice none 0 0] 27)) (.slice qk K ck) (keysL m args) from HU4.out.keep HB6.out)
    clear HB5 HB6 HH4 HB4
    go_wp2_with (first | (with_reducible refine wpList_load_row rfl 27 (.tmp 8) rfl w4.heap.size rfl 27 #[.int .i64 (k : Int), .slice qk K ck, .bool false, .bool false, .slice none 0 0] (0, 0) _ HD.out Try.underlying27 rfl HCs.out ?_) | (with_reducible refine wpList_store_row rfl 27 (.tmp 2) (.tmp 71) rfl w.heap.size #[.int .i64 (k : Int), .slice qk K ck, .bool false, .bool false, .slice none 0 0] rfl rfl 27 _ HH6.out HCs.out rfl HOn.out ?_))
    exact bodyPost_ret (results_cell_slot rfl _ _ w.heap.size 27 #[.int .i64 (k : Int), .slice qk K ck, .bool false, .bool false, .slice none 0 0] (0, 0) _ (.int .i64 0) rfl (setRow_heap _ w.heap.size _ _ _ _ HH6.out) Try.underlying27 rfl HCs.out rfl) rfl (need_end HZ3.out HBf.out HR.out HK.out HUf.out (by rw [HCh.out]; exact ansS_nil _ _) HAr.out HAw.out)
  · have HCh := Lib.hid (show chansL m args = [] by unfold chansL; rw [if_neg x4, if_neg x5])
    have HAr := Lib.hid (show decide (m = nKeys ∨ m = nDbsize) = false from decide_eq_false (by rintro (h | h); exact x1 h; exact x2 h))
    have HAw := Lib.hid (show decide (m = nFlush) = false from decide_eq_false x3)
    obtain ⟨y1, z1⟩ := name_ne HT.out x1
    obtain ⟨y2, z2⟩ := name_ne HT.out x2
    obtain ⟨y3, z3⟩ := name_ne HT.out x3
    obtain ⟨y4, z4⟩ := name_ne HT.out x4
    obtain ⟨y5, z5⟩ := name_ne HT.out x5
    obtain ⟨y6, z6⟩ := name_ne HT.out x6
    unfold nKeys at y1 z1
    unfold nDbsize at y2 z2
    unfold nFlush at y3 z3
    unfold nSub at y4 z4
    unfold nPub at y5 z5
    unfold nMset at y6 z6
    clear tm x1 x2 x3 x4 x5 x6
    go_enter Try.func11, Try.ntmps11
    go_wp2_with fail
    refine (CF.out _).mono ?_
    rintro e w1 ⟨rfl, hb1⟩
    go_wp2_with fail
    refine (CFit.out _).mono ?_
    rintro e w2 ⟨rfl, hb2⟩
    have hu3 : w2.cell? ⟨b, off, none⟩ = some (.string S) := by
      rw [hb2.cell (p := ⟨b, off, none⟩) (by have := hb1.size; have := HB.out.size; show b < _; omega), hb1.cell (p := ⟨b, off, none⟩) (by have := HB.out.size; show b < _; omega)]
      exact hu2
    have hb12 := hb1.trans (hb2.mono hb1.size)
    clear hb1 hb2 hu2 CF CFit
    go_wp2_with fail
    refine (CL.out _).mono ?_
    rintro e w3 ⟨rfl, hb3⟩
    have hb13 := hb12.trans (hb3.mono hb12.size)
    have HH3 := Lib.hid (show w3.heap[w.heap.size]? = some (.cells #[.int .i64 0, .slice none 0 0, .bool false, .bool false, .slice none 0 0] 27 (0, 0)) by rw [hb13.block w.heap.size (by simp)]; exact heap_alloc_last w _)
    have HB3 := Lib.hid (HB.out.trans (hb13.mono HB.out.size))
    have HZ3 := Lib.hid (show w.heap.size < w3.heap.size by have := hb13.size; simp at this; omega)
    have CK3 := Lib.hid (CK.out w3 HB3.out)
    clear hb12 hb3 hb13 CL HB hu3 CK
    go_wp2_with fail
    refine CK3.out.mono ?_
    rintro e w4 ⟨vk, rfl, ⟨qk, ck, rfl, hU, hge, hc1, hc2, hc3⟩, hb4⟩
    have HU4 := Lib.hid (show AnsU w3.heap.size w4 (.slice qk (keysL m args).length ck) (keysL m args) from ⟨qk, ck, rfl, hU, hge, hc1, hc2, hc3⟩)
    have HB4 := Lib.hid (HB3.out.trans (hb4.mono HB3.out.size))
    have HH4 := Lib.hid (show w4.heap[w.heap.size]? = some (.cells #[.int .i64 0, .slice none 0 0, .bool false, .bool false, .slice none 0 0] 27 (0, 0)) by rw [hb4.block w.heap.size HZ3.out]; exact HH3.out)
    have HSz4 := Lib.hid (show w3.heap.size ≤ w4.heap.size from hb4.size)
    have HZ4 := Lib.hid (show w.heap.size < w4.heap.size by have := hb4.size; have := HZ3.out; omega)
    clear CK3 hU hge hc1 hc2 hc3 hb4 HH3 HB3
    generalize hK : (keysL m args).length = K at HU4 ⊢
    clear hK
    have HB5 := Lib.hid (Kit.below1 w4 (.cells #[.int .i64 (k : Int), .slice qk K ck, .bool false, .bool false, .slice none 0 0] 27))
    have HB6 := HB5
    have HD := Lib.hid (show (w4.alloc (.cells #[.int .i64 (k : Int), .slice qk K ck, .bool false, .bool false, .slice none 0 0] 27)).heap[w4.heap.size]? = some (.cells #[.int .i64 (k : Int), .slice qk K ck, .bool false, .bool false, .slice none 0 0] 27 (0, 0)) from heap_alloc_last w4 _)
    have HH6 := Lib.hid (show (w4.alloc (.cells #[.int .i64 (k : Int), .slice qk K ck, .bool false, .bool false, .slice none 0 0] 27)).heap[w.heap.size]? = some (.cells #[.int .i64 0, .slice none 0 0, .bool false, .bool false, .slice none 0 0] 27 (0, 0)) by rw [HB6.out.block w.heap.size HZ4.out]; exact HH4.out)
    have HBf := Lib.hid (show Below w.heap.size w (w4.alloc (.cells #[.int .i64 (k : Int), .slice qk K ck, .bool false, .bool false, .slice none 0 0] 27)) from HB4.out.trans (HB6.out.mono HB4.out.size))
    have HCs := Lib.hid (show (Try.prog.info? 27).map (·.size) = some (#[.int .i64 (k : Int), .slice qk K ck, .bool false, .bool false, .slice none 0 0] : Array Value).size from need_size)
    have HOn := Lib.hid (show (#[.int .i64 (k : Int), .slice qk K ck, .bool false, .bool false, .slice none 0 0] : Array Value).all (·.oneCell') = true by simp [Value.oneCell'])
    have HUf := Lib.hid (show AnsU w3.heap.size (w4.alloc (.cells #[.int .i64 (k : Int), .slice qk K ck, .bool false, .bool false, .slice none 0 0] 27)) (.slice qk K ck) (keysL m args) from HU4.out.keep HB6.out)
    clear HB5 HB6 HH4 HB4
    go_wp2_with (first | (with_reducible refine wpList_load_row rfl 27 (.tmp 8) rfl w4.heap.size rfl 27 #[.int .i64 (k : Int), .slice qk K ck, .bool false, .bool false, .slice none 0 0] (0, 0) _ HD.out Try.underlying27 rfl HCs.out ?_) | (with_reducible refine wpList_store_row rfl 27 (.tmp 2) (.tmp 71) rfl w.heap.size #[.int .i64 (k : Int), .slice qk K ck, .bool false, .bool false, .slice none 0 0] rfl rfl 27 _ HH6.out HCs.out rfl HOn.out ?_))
    exact bodyPost_ret (results_cell_slot rfl _ _ w.heap.size 27 #[.int .i64 (k : Int), .slice qk K ck, .bool false, .bool false, .slice none 0 0] (0, 0) _ (.int .i64 0) rfl (setRow_heap _ w.heap.size _ _ _ _ HH6.out) Try.underlying27 rfl HCs.out rfl) rfl (need_end HZ3.out HBf.out HR.out HK.out HUf.out (by rw [HCh.out]; exact ansS_nil _ _) HAr.out HAw.out)

end Go.Proofs.Ytonoelpmmjnpeaa.RefU
