/-
  What mac.Mac, mac.fitting and mac.Same come to.
-/
import Derived.Test.YtjcohlpjlifolaaDoorMacKeyed
namespace Go.Proofs.YtjcohlpjlifolaaDoor.MacT
open Go.RowKit Kit ShaMath ShaT MacM
set_option linter.unusedVariables false
set_option maxRecDepth 100000

set_option maxHeartbeats 1000000 in
theorem mac_any (p : Option Addr) (l : List UInt8) (n cap : Nat) (q : Option Addr) (m : List UInt8) (k cap2 : Nat) (w : World) (hn : l.length = n) (hb : Bs w p l) (hm : l.length ≤ 281474976710656) (hlc : l.length ≤ cap) (hc : cap ≤ 9223372036854775807)
    (hk : m.length = k) (hbm : Bs w q m) (hl : m.length ≤ 70368744170000) (hg : Tabs w) :
    Calls Tryd.prog 12 #[.slice p n cap, .slice q k cap2] w fun e w' => e = .returned (.agg (row .u8 32 (macAt l m))) ∧ Below w.heap.size w w' := by
  obtain ⟨hz3, hn3⟩ := zero_of_info info_32
  have HN := Lib.hid hn3
  clear hn3
  have HR := Lib.hid (show macAt l m = keyedAt (keyAt l) m from rfl)
  rw [HR.out]
  have C1 := Lib.hid (fun W (h : Bs W p l) (g : Tabs W) => mblock_any p l n cap W hn h hm hlc hc g)
  have C2 := Lib.hid (fun W (h : Bs W q m) (g : Tabs W) => keyed_any (keyAt l) (keyAt_lt l) q m k cap2 W hk h hl g)
  have HB := Lib.hid hb
  have HM := Lib.hid hbm
  have HG := Lib.hid hg
  clear hn hk hb hbm hg
  go_enter Tryd.func12, Tryd.ntmps12
  go_wp2_with fail
  have hb0 := below1 w (.cells (row .u8 32 fun _ => 0) 25)
  have HA0 := Lib.hid (Arr.new (w := w) (k := .u8) (n := 32) (t := 25) (f := fun _ => 0))
  refine (C1.out _ (HB.out.keep hb0) (HG.out.keep hb0)).mono ?_
  rintro e w1 ⟨rfl, hb1⟩
  have HB1 := Lib.hid (hb0.trans (hb1.mono hb0.size))
  have HA1 := Lib.hid (HA0.out.keep hb1 HA0.out.lt)
  clear hb0 hb1
  go_wp2_with fail
  refine (C2.out _ (HM.out.keep HB1.out) (HG.out.keep HB1.out)).mono ?_
  rintro e w2 ⟨rfl, hb2⟩
  have hb3 := HB1.out.trans (hb2.mono HB1.out.size)
  have hA2 := HA1.out.keep hb2 HA1.out.lt
  clear hb2
  go_wp2_with (with_reducible refine wpList_store_arr rfl 25 (.tmp 4) (.tmp 8) rfl w.heap.size .u8 32 (keyedAt (keyAt l) m) rfl rfl 25 _ hA2 HN ?_)
  exact bodyPost_ret (results_arr rfl _ _ w.heap.size 25 .u8 32 (keyedAt (keyAt l) m) _ rfl (hA2.setRow _) Tryd.underlying25 rfl HN) rfl ⟨rfl, below_setRow hb3 (Nat.le_refl _) _⟩

theorem fit_yes (r : Int) (w : World) (h0 : 1 ≤ r) (h1 : r ≤ 64) :
    Calls Tryd.prog 29 #[.int .i64 r] w fun e w' => e = .returned (.bool true) ∧ w = w' := by
  have d1 : decide (1 ≤ r) = true := decide_eq_true h0
  have d2 : decide (r ≤ 64) = true := decide_eq_true h1
  go_enter Tryd.func29, Tryd.ntmps29
  go_wp2
  go_ret
  exact ⟨rfl, rfl⟩
theorem fit_no (r : Int) (w : World) (h : ¬ (1 ≤ r ∧ r ≤ 64)) :
    Calls Tryd.prog 29 #[.int .i64 r] w fun e w' => e = .returned (.bool false) ∧ w = w' := by
  by_cases h0 : 1 ≤ r
  · have h1 : ¬ r ≤ 64 := fun h' => h ⟨h0, h'⟩
    have d1 : decide (1 ≤ r) = true := decide_eq_true h0
    have d2 : decide (r ≤ 64) = false := decide_eq_false h1
    clear h
    go_enter Tryd.func29, Tryd.ntmps29
    go_wp2
    go_ret
    exact ⟨rfl, rfl⟩
  · have d1 : decide (1 ≤ r) = false := decide_eq_false h0
    clear h
    go_enter Tryd.func29, Tryd.ntmps29
    go_wp2
    go_ret
    exact ⟨rfl, rfl⟩

/-- Unlike bits so far. -/
def unl (a b : List UInt8) : Nat → Nat
  | 0 => 0
  | k + 1 => unl a b k ||| (byte a k ^^^ byte b k)
theorem unl_succ (a b : List UInt8) (k : Nat) : unl a b (k + 1) = unl a b k ||| (byte a k ^^^ byte b k) := by rw [unl]
theorem unl_lt (a b : List UInt8) : ∀ k, unl a b k < 256
  | 0 => by show 0 < 256; decide
  | k + 1 => by rw [unl_succ]; exact Nat.or_lt_two_pow (n := 8) (unl_lt a b k) (Nat.xor_lt_two_pow (n := 8) (byte_lt _ _) (byte_lt _ _))
theorem xor_zero {a b : Nat} (h : a ^^^ b = 0) : a = b := by
  have h2 : (a ^^^ b) ^^^ b = 0 ^^^ b := by rw [h]
  rwa [Nat.xor_assoc, Nat.xor_self, Nat.xor_zero, Nat.zero_xor] at h2
theorem unl_zero (a b : List UInt8) : ∀ k, unl a b k = 0 ↔ ∀ j, j < k → byte a j = byte b j
  | 0 => ⟨fun _ j hj => by omega, fun _ => rfl⟩
  | k + 1 => by
    rw [unl_succ, Nat.or_eq_zero_iff, unl_zero a b k]
    constructor
    · rintro ⟨h1, h2⟩ j hj
      by_cases e : j = k
      · subst e
        exact xor_zero h2
      · exact h1 j (by omega)
    · intro h
      exact ⟨fun j hj => h j (by omega), by rw [h k (by omega), Nat.xor_self]⟩
theorem byte_at (l : List UInt8) (j : Nat) (h : j < l.length) : byte l j = l[j].toNat := by
  unfold byte
  rw [List.getD_eq_getElem?_getD, List.getElem?_eq_getElem h]
  rfl
theorem unl_eq {a b : List UInt8} (h : a.length = b.length) : (unl a b a.length == 0) = decide (a = b) := by
  rw [Bool.eq_iff_iff, beq_iff_eq, decide_eq_true_eq, unl_zero]
  constructor
  · intro hh
    apply List.ext_getElem h
    intro j h1 h2
    have := hh j h1
    rw [byte_at a j h1, byte_at b j h2] at this
    exact UInt8.toNat_inj.1 this
  · rintro rfl j _
    rfl

set_option maxHeartbeats 1000000 in
theorem same_any (p : Option Addr) (a : List UInt8) (n cap : Nat) (q : Option Addr) (b : List UInt8) (m cap2 : Nat) (w : World) (hn : a.length = n) (ha : Bs w p a) (hm : b.length = m) (hb : Bs w q b) (hl : n ≤ 281474976710656) (hl2 : m ≤ 281474976710656) :
    Calls Tryd.prog 16 #[.slice p n cap, .slice q m cap2] w fun e w' => e = .returned (.bool (decide (a = b))) ∧ Below w.heap.size w w' := by
  by_cases hnm : n = m
  · have hd : ((n : Int) != (m : Int)) = false := by simp [hnm]
    have HE := Lib.hid (unl_eq (show a.length = b.length by omega))
    rw [← HE.out, hn]
    have HA := Lib.hid ha
    have HB := Lib.hid hb
    have HN := Lib.hid hn
    have HM := Lib.hid hm
    have HNM := Lib.hid hnm
    clear HE ha hb hn hm hnm
    go_enter Tryd.func16, Tryd.ntmps16
    go_wp2_with fail
    go_loopw [5, 14] (fun u i wr => ∃ k : Nat, k ≤ n ∧ i = .int .i64 k ∧ u = .int .u8 (unl a b k : Int) ∧ Below w.heap.size w wr) (fun _ i _ => n - (intOf i).toNat)
    case atStart => exact ⟨0, Nat.zero_le _, rfl, rfl, Below.refl _ _⟩
    case round =>
      obtain ⟨k, hk, rfl, rfl, hR⟩ := hrel
      by_cases hlt : k < n
      · obtain ⟨b1, o1, rfl, -, hc1⟩ := (HA.out.keep hR) (by rw [HN.out]; omega)
        obtain ⟨b2, o2, rfl, -, hc2⟩ := (HB.out.keep hR) (by rw [HM.out]; have := HNM.out; omega)
        have c1 := hc1 k (by rw [HN.out]; omega)
        have c2 := hc2 k (by rw [HM.out]; have := HNM.out; omega)
        rw [← byte_at a k] at c1
        rw [← byte_at b k] at c2
        clear hc1 hc2
        have hx1 := byte_lt a k
        have hx2 := byte_lt b k
        have e1 := u8_xor_nat (byte a k) (byte b k) hx1 hx2
        have e2 := u8_or_nat (unl a b k) (byte a k ^^^ byte b k) (unl_lt a b k) (Nat.xor_lt_two_pow (n := 8) hx1 hx2)
        have HS := Lib.hid (unl_succ a b k)
        have hkm : k < m := by have := HNM.out; omega
        go_wp2_with fail
        go_quiet (fail)
        go_wp2_with fail
        go_roundw
        case rel => exact ⟨k + 1, by omega, by go_num, by rw [HS.out], hR.trans ⟨rfl, rfl, rfl, Nat.le_refl _, fun _ _ => rfl⟩⟩
        case measure => simp [intOf]; omega
      · have hk2 : k = n := by omega
        have HK := Lib.hid (show unl a b n = unl a b k by rw [hk2])
        have hv : ((unl a b k : Int) == 0) = (unl a b n == 0) := by rw [HK.out, Bool.eq_iff_iff]; simp
        clear hk2
        go_wp2_with fail
        go_ret
        exact ⟨rfl, hR⟩
  · have hd : ((n : Int) != (m : Int)) = true := by simp; omega
    have HE := Lib.hid (show decide (a = b) = false from decide_eq_false (fun e => hnm (by rw [← hn, ← hm, e])))
    rw [HE.out]
    clear hnm hn hm ha hb HE
    go_enter Tryd.func16, Tryd.ntmps16
    go_wp2_with fail
    go_ret
    exact ⟨rfl, Below.refl _ _⟩

end Go.Proofs.YtjcohlpjlifolaaDoor.MacT
