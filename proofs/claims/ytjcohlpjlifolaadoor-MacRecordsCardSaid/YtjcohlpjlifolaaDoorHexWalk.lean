/-
  What sha.Hex, sha.digit and sha.Unhex come to.
-/
import Derived.Test.YtjcohlpjlifolaaDoorOwn
import Derived.Test.YtjcohlpjlifolaaDoorHexMath
import Derived.Laws.MakeOwn
import Derived.Deep.RegionLaw
namespace Go.Proofs.YtjcohlpjlifolaaDoor.HexW
open Go.RowKit Kit HexMath ShaT
set_option linter.unusedVariables false
set_option maxRecDepth 100000

theorem u8_info : (Tryd.prog.info? 5).map (fun i => (i.zero, i.size, i.bytes)) = some (some (.int .u8 0), 1, 1) := by kernel_rfl
/-- A digit out of the row of them. -/
theorem dig_at (n : Nat) (h : n < 16) (w : World) : (Instr.index 9 (.string ⟨#[48, 49, 50, 51, 52, 53, 54, 55, 56, 57, 97, 98, 99, 100, 101, 102]⟩) (.int .u8 (n : Int))).run Tryd.prog w = .ok (.int .u8 ((hexD n).toNat : Int)) w := by
  have key : ∀ n, n < 16 → (⟨#[48, 49, 50, 51, 52, 53, 54, 55, 56, 57, 97, 98, 99, 100, 101, 102]⟩ : ByteArray)[n]? = some (hexD n) := by decide +kernel
  have hsz : (⟨#[48, 49, 50, 51, 52, 53, 54, 55, 56, 57, 97, 98, 99, 100, 101, 102]⟩ : ByteArray).size = 16 := rfl
  have k1 := key n h
  rw [ByteArray.getElem?_lt' _ _ (by rw [hsz]; exact h)] at k1
  injection k1 with k1
  rw [run_index_string _ _ _ _ _ Tryd.underlying9, dif_pos ⟨by omega, by rw [hsz]; omega⟩]
  simp only [Int.toNat_natCast, k1]

/-- An append of a row that the call owns, as one step of a region that draws its order. -/
theorem step_append_own {P : Program} {w : World} {ops : Array Oper} {o : Oper} {a : Act} {K : Act → World → Prop} {Q : Exit → Act → World → Prop} {E : Prop} (hgd : o.guard = none) (s x : Operand) (t : TypeId)
    (ho : o.op = .call { callee := .builtin .append, args := #[s, x], argTypes := #[t, t] })
    (base : Nat) (e : TypeId) (i : TypeInfo) (z : Value) (size bytes : Nat) (ht : P.underlying t = some (.slice e)) (hi : P.info? e = some i) (hz : i.zero = some z)
    (hsize : i.size = size) (hby : i.bytes = bytes) (hzs : z.cells.size = size) (hsz : 0 < size)
    (v : Value) (n : Nat) (xs : List Value) (hs : a.eval s = v) (hown : w.ownsRow base e size v n xs)
    (ad : Addr) (m c : Nat) (news : List Value) (hx : a.eval x = .slice (some ad) m c) (hl : news.length = m * size) (hnews : ∀ j u, news[j]? = some u → w.cell? (ad.add j) = some u) (h1 : ∀ u ∈ news, u.oneCell' = true)
    (h63 : n + m ≤ maxLen) (hbytes : (n + m) * bytes ≤ 140737488355328) (hbase : base ≤ w.heap.size)
    (h : ∀ v' w', w'.ownsRow base e size v' (n + m) (xs ++ news) → w.grownBy w' v.ownBlock → (v' = .slice none 0 0 ↔ v = .slice none 0 0 ∧ m = 0) → K (a.put o.dst v') w') : if Region.wanted o (yielded ops a.tmps) = true then Oper.wp P o a w K Q else E := by
  rw [if_pos (by simp [Region.wanted, hgd])]
  exact wp_append_own w s x t ho base e i z size bytes ht hi hz hsize hby hzs hsz v n xs hs hown ad m c news hx hl hnews h1 h63 hbytes hbase h
/-- Two bytes that have been laid in a box of their own. -/
theorem two_news (w : World) (c d : Value) (t : TypeId) : ∀ j u, [c, d][j]? = some u → (w.alloc (.cells #[c, d] t)).cell? ((⟨w.heap.size, 0, none⟩ : Addr).add j) = some u := by
  intro j u hj
  match j, hj with
  | 0, hj => simp at hj; subst hj; simp [Addr.add]
  | 1, hj => simp at hj; subst hj; simp [Addr.add]
  | j + 2, hj => simp at hj

theorem own_drew {w : World} {base size n : Nat} {e : TypeId} {v : Value} {xs : List Value} (h : w.ownsRow base e size v n xs) : w.drew.ownsRow base e size v n xs := h
theorem own_drewN {w : World} {base size n : Nat} {e : TypeId} {v : Value} {xs : List Value} (h : w.ownsRow base e size v n xs) (q : Nat) : (w.drewN q).ownsRow base e size v n xs := h
theorem two_news_drew (w : World) (c d : Value) (t : TypeId) : ∀ j u, [c, d][j]? = some u → (w.alloc (.cells #[c, d] t)).drew.cell? ((⟨w.heap.size, 0, none⟩ : Addr).add j) = some u := two_news w c d t

theorem first_below {w wr w1 : World} {o : Obj} {r : Option Nat} (hb : Below w.heap.size w wr) (hbs : w.heap.size ≤ wr.heap.size) (hg : (wr.alloc o).drew.grownBy w1 r) (hr : ∀ k, r = some k → w.heap.size ≤ k) : Below w.heap.size w w1 :=
  ((hb.alloc hbs o).drew).grown hg (by show w.heap.size ≤ (wr.alloc o).heap.size; simp; omega) hr

set_option maxHeartbeats 1000000 in
theorem hex_any (p : Option Addr) (l : List UInt8) (cap : Nat) (w : World) (hb : Bs w p l) (hl : l.length ≤ 70368744176640) :
    Calls Tryd.prog 23 #[.slice p l.length cap] w fun e w' => e = .returned (.string ⟨(hexL l).toArray⟩) ∧ Below w.heap.size w w' := by
  obtain ⟨i0, hi0, hz0, hz1, hzb⟩ := info_parts u8_info
  have hmk := run_make (P := Tryd.prog) w 22 5 i0 (.int .u8 0) Tryd.underlying22 hi0 hz0 .i64 .i64 0 (2 * (l.length : Int)) (by omega) (by omega) (by rw [hzb]; omega) (by omega)
  rw [hz1, show (2 * (l.length : Int)).toNat * 1 = 2 * l.length by omega, show (2 * (l.length : Int)).toNat = 2 * l.length by omega] at hmk
  go_enter Tryd.func23, Tryd.ntmps23
  go_wp2_with fail
  go_loopw [3, 12] (fun v i wr => ∃ k : Nat, k ≤ l.length ∧ i = .int .i64 k ∧ Below w.heap.size w wr ∧ wr.ownsRow w.heap.size 5 1 v (2 * k) (bv (hexL (l.take k)))) (fun _ i _ => l.length - (intOf i).toNat)
  case atStart => exact ⟨0, Nat.zero_le _, rfl, below1 _ _, World.ownsRow_made w _ (2 * l.length) (Nat.le_refl _) (by unfold maxLen; omega) (by rw [size_madeCells, Nat.mul_one])⟩
  case round =>
    obtain ⟨k, hk, rfl, hbel, hown⟩ := hrel
    have hbs := hbel.size
    by_cases hlt : k < l.length
    · obtain ⟨b, off, rfl, hbl, hc⟩ := (hb.keep hbel) (by omega)
      have hck := hc k hlt
      have h256 := UInt8.toNat_lt l[k]
      have d1 := dig_at (l[k].toNat / 16) (by omega)
      have d2 := dig_at (l[k].toNat % 16) (by omega)
      rw [show ((l[k].toNat / 16 : Nat) : Int) = (l[k].toNat : Int) / 16 by omega] at d1
      rw [show ((l[k].toNat % 16 : Nat) : Int) = (l[k].toNat : Int) % 16 by omega] at d2
      have d3 : bits .and .u8 (l[k].toNat : Int) 15 = (l[k].toNat : Int) % 16 := u8_and15 _ (by omega) (by omega)
      clear hc
      go_wp2_with fail
      have HSN : Hid (hexL (l.take (k + 1)) = hexL (l.take k) ++ [hexD (l[k].toNat / 16), hexD (l[k].toNat % 16)]) := Lib.hid (by rw [List.take_succ_eq_append_getElem hlt, hexL_snoc])
      go_region_law (refine step_append_own rfl (.tmp 16) (.tmp 23) 22 rfl w.heap.size 5 i0 (.int .u8 0) 1 1 Tryd.underlying22 hi0 hz0 hz1 hzb rfl (by decide) u3 (2 * k) _ rfl (by first | exact own_drew (hown.alloc _) | exact (own_drew hown).alloc _) ⟨wr.heap.size, 0, none⟩ 2 2 [.int .u8 ((hexD (l[k].toNat / 16)).toNat : Int), .int .u8 ((hexD (l[k].toNat % 16)).toNat : Int)] rfl rfl (by first | exact two_news_drew _ _ _ _ | exact two_news _ _ _ _) (by simp [Value.oneCell']) (by unfold maxLen; omega) (by omega) (by simp; omega) ?_; intro v' w1 hown1 hgrow _)
      all_goals
        have hnb := Lib.hid (show Below w.heap.size w w1 from first_below hbel hbs hgrow (own_base hown))
        clear hgrow d1 d2 d3 hck
        go_wp2_with fail
        go_roundw
        case rel => exact ⟨k + 1, by omega, by go_num, hnb.out, by rw [HSN.out, bv_app, show 2 * (k + 1) = 2 * k + 2 by omega]; exact hown1⟩
        case measure => simp [intOf]; omega
    · have e : hexL (l.take k) = hexL l := by rw [List.take_of_length_le (by omega)]
      rw [e] at hown
      have hback := run_own_string Tryd.underlying22 Tryd.underlying5 Tryd.underlying9 hown
      clear hown e
      go_wp2_with fail
      go_ret
      exact ⟨rfl, hbel⟩

end Go.Proofs.YtjcohlpjlifolaaDoor.HexW
