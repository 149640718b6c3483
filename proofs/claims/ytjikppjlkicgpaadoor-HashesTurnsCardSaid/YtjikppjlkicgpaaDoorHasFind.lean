/-
  The landed code of layer 13: a name is looked up by halves.
-/
import Derived.Test.YtjikppjlkicgpaaDoorHasPure
import Derived.Test.YtjikppjlkicgpaaDoorReplyT
import Derived.Test.YtjikppjlkicgpaaDoorShelf
import Derived.Test.YtjikppjlkicgpaaDoorValRowz
import Derived.Test.YtjikppjlkicgpaaDoorValMaths
import Derived.StillTailTactics
namespace Go.Proofs.YtjikppjlkicgpaaDoor.HasM
open Go.RowKit Kit StrT RowG BOrd ValT ReplyMath Low DoT HasT ValM
open Go.Op (bytesLess)
set_option linter.unusedVariables false
set_option maxRecDepth 100000

set_option maxHeartbeats 2000000 in
theorem byName_any (A B C : ByteArray) (w : World) :
    Calls Tryd.prog 56 #[.agg #[.string A, .string B], .string C] w fun e w' => e = .returned (.int .i64 (Lib.compareBytes A.data.toList C.data.toList)) ∧ Below w.heap.size w w' := by
  have c0 : (w.alloc (.cells #[.string A, .string B] 40)).cell? ⟨w.heap.size, 0, none⟩ = some (.string A) := by
    rw [cell_of_row _ _ _ _ 40 _ (heap_alloc_last w _)]
    rfl
  have HB := Lib.hid (ReplyT.below1 w (.cells #[.string A, .string B] 40))
  have CC := Lib.hid (fun W => Tryd.strings_Compare A C W)
  go_enter Tryd.func56, Tryd.ntmps56
  go_wp2_with (go_at_call 62; with_reducible refine (CC.out _).mono ?_; rintro e w1 ⟨rfl, rfl⟩)
  go_ret
  exact ⟨rfl, HB.out⟩
theorem str_of (l : List UInt8) : ∃ S : ByteArray, S.data.toList = l ∧ (⟨l.toArray⟩ : ByteArray) = S := ⟨⟨l.toArray⟩, rfl, rfl⟩

set_option maxHeartbeats 8000000 in
theorem search_any (q : Option Addr) (H : List Pr) (n c : Nat) (N : ByteArray) (w : World) (hn : H.length = n) (hR : Rs prE w q H) (hU : Up H) (hz : n ≤ 1048576) :
    Calls Tryd.prog 55 #[.slice q n c, .string N, .func (.func 56) #[] #[]] w fun e w' => e = .returned (.tuple #[.int .i64 (posP H N.data.toList : Nat), .bool (hasP H N.data.toList)]) ∧ Below w.heap.size w w' := by
  have HS := Lib.hid hR
  have HN := Lib.hid hn
  have HU := Lib.hid hU
  have hp : posP H N.data.toList ≤ n := by rw [← hn]; exact pos_le _ _
  have HG := Lib.hid (pos_get N.data.toList hU)
  have HL := Lib.hid (fun k hk => lt_pos N.data.toList hU k hk)
  obtain ⟨p, hpe⟩ : ∃ p, p = posP H N.data.toList := ⟨_, rfl⟩
  obtain ⟨t, hte⟩ : ∃ t, t = hasP H N.data.toList := ⟨_, rfl⟩
  rw [← hpe, ← hte]
  rw [← hpe] at hp
  have HG' : Hid ((t = true ∧ ∃ h : p < H.length, H[p].name = N.data.toList) ∨ (t = false ∧ ∀ h : p < H.length, H[p].name ≠ N.data.toList)) := Lib.hid (by
    subst hpe hte
    rcases HG.out with ⟨h1, h2, h3, -⟩ | ⟨h1, -, h2⟩
    · exact Or.inl ⟨h1, h2, h3⟩
    · exact Or.inr ⟨h1, h2⟩)
  rw [← hpe] at HL
  clear HG hn hR hU hpe hte
  go_enter Tryd.func55, Tryd.ntmps55
  go_wp2_with fail
  go_loopw [9, 10] (fun i j wr => ∃ lo hi : Nat, i = .int .i64 (lo : Int) ∧ j = .int .i64 (hi : Int) ∧ lo ≤ p ∧ p ≤ hi ∧ hi ≤ n ∧ Hid (Below w.heap.size w wr)) (fun i j _ => (intOf j - intOf i).toNat)
  case atStart => exact ⟨0, n, rfl, rfl, Nat.zero_le _, hp, Nat.le_refl _, Lib.hid (Below.refl _ _)⟩
  case round =>
    obtain ⟨lo, hi, rfl, rfl, h1, h2, h3, HB⟩ := hrel
    by_cases hlt : lo < hi
    · obtain ⟨b, off, rfl, hbl, u0, u1⟩ := pair_cells (HS.out.keep HB.out) ((lo + hi) / 2) (by rw [HN.out]; omega)
      have hL := HL.out ((lo + hi) / 2) (by rw [HN.out]; omega)
      obtain ⟨A, hA, hA2⟩ := str_of (H[(lo + hi) / 2]'(by rw [HN.out]; omega)).name
      obtain ⟨B, hB, hB2⟩ := str_of (H[(lo + hi) / 2]'(by rw [HN.out]; omega)).val
      rw [hA2] at u0
      rw [hB2] at u1
      rw [← hA] at hL
      have CF := Lib.hid (fun W => byName_any A B N W)
      rw [← cmp_neg] at hL
      obtain ⟨V, hV⟩ : ∃ V, V = Lib.compareBytes A.data.toList N.data.toList := ⟨_, rfl⟩
      rw [← hV] at hL CF
      clear hA hA2 hB hB2 hV hbl hp
      by_cases hc : V < 0
      · have hlp : (lo + hi) / 2 < p := hL.1 hc
        clear hL
        go_wp2_with (go_at_call 56; with_reducible refine (CF.out _).mono ?_; rintro e w1 ⟨rfl, hb1⟩)
        have HB1 := Lib.hid (HB.out.trans (hb1.mono HB.out.size))
        go_roundw
        case rel => exact ⟨(lo + hi) / 2 + 1, hi, by rw [show ((lo : Int) + (hi : Int)) / 2 + 1 = (((lo + hi) / 2 + 1 : Nat) : Int) by omega], rfl, by omega, h2, h3, HB1⟩
        case measure => simp [intOf]; omega
      · have hlp : p ≤ (lo + hi) / 2 := by
          rcases Nat.lt_or_ge ((lo + hi) / 2) p with h | h
          · exact absurd (hL.2 h) hc
          · exact h
        clear hL
        go_wp2_with (go_at_call 56; with_reducible refine (CF.out _).mono ?_; rintro e w1 ⟨rfl, hb1⟩)
        have HB1 := Lib.hid (HB.out.trans (hb1.mono HB.out.size))
        go_roundw
        case rel => exact ⟨lo, (lo + hi) / 2, rfl, by rw [show ((lo : Int) + (hi : Int)) / 2 = (((lo + hi) / 2 : Nat) : Int) by omega], h1, by omega, by omega, HB1⟩
        case measure => simp [intOf]; omega
    · obtain rfl : p = lo := by omega
      obtain rfl : p = hi := by omega
      rcases HG'.out with ⟨rfl, hpl, hpn⟩ | ⟨rfl, hpn⟩
      · have hpn2 : p < n := by rw [← HN.out]; exact hpl
        obtain ⟨b, off, rfl, hbl, u0, u1⟩ := pair_cells (HS.out.keep HB.out) p hpl
        obtain ⟨A, hA, hA2⟩ := str_of (H[p]'hpl).name
        obtain ⟨B, hB, hB2⟩ := str_of (H[p]'hpl).val
        rw [hA2] at u0
        rw [hB2] at u1
        have hV : Lib.compareBytes A.data.toList N.data.toList = 0 := (cmp_nought _ _).2 (by rw [hA]; exact hpn)
        have CF := Lib.hid (fun W => byName_any A B N W)
        rw [hV] at CF
        clear hA hA2 hB hB2 hV hbl hp hpn hpl h1 h2 h3 hlt
        go_wp2_with (go_at_call 56; with_reducible refine (CF.out _).mono ?_; rintro e w1 ⟨rfl, hb1⟩)
        go_ret2
        exact ⟨rfl, HB.out.trans (hb1.mono HB.out.size)⟩
      · by_cases hpl : p < n
        · have hpl2 : p < H.length := by rw [HN.out]; exact hpl
          obtain ⟨b, off, rfl, hbl, u0, u1⟩ := pair_cells (HS.out.keep HB.out) p hpl2
          obtain ⟨A, hA, hA2⟩ := str_of (H[p]'hpl2).name
          obtain ⟨B, hB, hB2⟩ := str_of (H[p]'hpl2).val
          rw [hA2] at u0
          rw [hB2] at u1
          have hV : Lib.compareBytes A.data.toList N.data.toList ≠ 0 := fun h => hpn hpl2 (by rw [← hA]; exact (cmp_nought _ _).1 h)
          have CF := Lib.hid (fun W => byName_any A B N W)
          obtain ⟨V, hVe⟩ : ∃ V, V = Lib.compareBytes A.data.toList N.data.toList := ⟨_, rfl⟩
          rw [← hVe] at hV CF
          have hV2 : (V == 0) = false := by rw [beq_eq_false_iff_ne]; exact hV
          clear hA hA2 hB hB2 hVe hbl hp hpn hpl2 h1 h2 h3 hlt
          go_wp2_with (go_at_call 56; with_reducible refine (CF.out _).mono ?_; rintro e w1 ⟨rfl, hb1⟩)
          go_ret2
          exact ⟨by first | rfl | simp [hV], HB.out.trans (hb1.mono HB.out.size)⟩
        · clear hpn hp h1 h2 h3 hlt
          go_wp2_with fail
          go_ret2
          exact ⟨rfl, HB.out⟩
/-- A request's hash in memory: its pairs are the call's own. -/
structure HB (w0 w : World) (g : Nat) (q : Option Addr) (n c : Nat) (H : List Pr) : Prop where
  bl : Below w0.heap.size w0 w
  ge : w0.heap.size ≤ g
  hp : w.heap[g]? = some (.cells #[.slice q n c] 56 (0, 0))
  ow : OwnR prE w0.heap.size w (.slice q n c) H
  ln : H.length = n
  up : Up H
  lm : n ≤ 1048576
section
variable {w0 w : World} {g n c : Nat} {q : Option Addr} {H : List Pr}
theorem HB.lt (h : HB w0 w g q n c H) : g < w.heap.size := (Array.getElem?_eq_some_iff.1 h.hp).1
theorem HB.keep {w' : World} (h : HB w0 w g q n c H) (hb : Below w.heap.size w w') : HB w0 w' g q n c H :=
  ⟨h.bl.trans (hb.mono h.bl.size), h.ge, (hb.block g h.lt).trans h.hp, h.ow.keep hb, h.ln, h.up, h.lm⟩
theorem HB.cell (h : HB w0 w g q n c H) : w.cell? ⟨g, 0, none⟩ = some (.slice q n c) := by
  rw [cell_of_row _ _ _ _ 56 _ h.hp]
  rfl
theorem HB.frz (h : HB w0 w g q n c H) : w.frozen? ⟨g, 0, none⟩ = false := frozen_of_row _ _ _ _ 56 h.hp
theorem HB.rs (h : HB w0 w g q n c H) : Rs prE w q H := by
  obtain ⟨q', c', e, hR, -⟩ := OwnR.ans h.ow
  injection e with e1 e2 e3
  subst e1
  exact hR
end
set_option maxHeartbeats 4000000 in
theorem place_any (w0 w : World) (g : Nat) (q : Option Addr) (n c : Nat) (H : List Pr) (N : ByteArray) (h : HB w0 w g q n c H) :
    Calls Tryd.prog 44 #[.pointer (some ⟨g, 0, none⟩), .string N] w fun e w' => e = .returned (.tuple #[.int .i64 (posP H N.data.toList : Nat), .bool (hasP H N.data.toList)]) ∧ Below w.heap.size w w' := by
  have C := Lib.hid (search_any q H n c N w h.ln h.rs h.up h.lm)
  have hc := h.cell
  generalize posP H N.data.toList = p at C ⊢
  generalize hasP H N.data.toList = t at C ⊢
  clear h
  go_enter Tryd.func44, Tryd.ntmps44
  go_wp2_with fail
  with_reducible refine C.out.mono ?_
  rintro e w1 ⟨rfl, hb⟩
  go_wp2_with fail
  go_ret2
  exact ⟨rfl, hb⟩

end Go.Proofs.YtjikppjlkicgpaaDoor.HasM
