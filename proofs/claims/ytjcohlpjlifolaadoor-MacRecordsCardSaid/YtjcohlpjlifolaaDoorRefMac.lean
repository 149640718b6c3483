/-
  What the reference's flipped and Mac come to.
-/
import Derived.Test.YtjcohlpjlifolaaDoorMacLaw
import Derived.Test.YtjcohlpjlifolaaDoorRefSum
import Derived.Deep.CutBlock
import Derived.Deep.DeepCutAuto
namespace Go.Proofs.YtjcohlpjlifolaaDoor.RefM
open Go.RowKit Kit ShaMath ShaT MacM MacT RefT
open Go.Sort (grow)
set_option linter.unusedVariables false
set_option maxRecDepth 100000

theorem step_append_bs {w0 w : World} {ops : Array Oper} {o : Oper} {a : Act} {K : Act → World → Prop} {Q : Exit → Act → World → Prop} {E : Prop} (hgd : o.guard = none) (s x : Operand)
    (ho : o.op = .call { callee := .builtin .append, args := #[s, x], argTypes := #[22, 22] })
    (v : Value) (xs : List UInt8) (hs : a.eval s = v) (hown : Own w0.heap.size w v xs) (hb : Below w0.heap.size w0 w)
    (q : Option Addr) (l : List UInt8) (m c : Nat) (hx : a.eval x = .slice q m c) (hm : l.length = m) (hl : Bs w q l) (hnil : q = none → c = 0) (hsz : xs.length + m ≤ 70368744177664) (z : List UInt8) (hzz : z = xs ++ l)
    (h : ∀ v' w', Own w0.heap.size w' v' z → Below w0.heap.size w0 w' → K (a.put o.dst v') w') : if Region.wanted o (yielded ops a.tmps) = true then Oper.wp Tryd.prog o a w K Q else E := by
  rw [if_pos (by simp [Region.wanted, hgd])]
  exact wp_append_bs s x ho v xs hs hown hb q l m c hx hm hl hnil hsz z hzz h
theorem own_less {b b' : Nat} {w : World} {v : Value} {l : List UInt8} (h : Own b w v l) (hb : b' ≤ b) : Own b' w v l := by
  refine ⟨h.1, ?_⟩
  rcases h.2 with ⟨e, h0⟩ | ⟨g, cap, cur, e, hg, hh⟩
  · exact Or.inl ⟨e, h0⟩
  · exact Or.inr ⟨g, cap, cur, e, Nat.le_trans hb hg, hh⟩
theorem own_keep {base : Nat} {w w' : World} {v : Value} {l : List UInt8} (h : Own base w v l) (hb : Below w.heap.size w w') : Own base w' v l := by
  refine ⟨h.1, ?_⟩
  rcases h.2 with ⟨e, h0⟩ | ⟨g, cap, cur, e, hg, hh, h1, h2, h3, h4⟩
  · exact Or.inl ⟨e, h0⟩
  · have hlt : g < w.heap.size := by
      rcases Nat.lt_or_ge g w.heap.size with h' | h'
      · exact h'
      · rw [Array.getElem?_eq_none h'] at hh; cases hh
    exact Or.inr ⟨g, cap, cur, e, hg, by rw [hb.block g hlt]; exact hh, h1, h2, h3, h4⟩
theorem bytesOf_succ (k : Nat) (f : Nat → Nat) : bytesOf (k + 1) f = bytesOf k f ++ [UInt8.ofNat (f k)] := by
  unfold bytesOf
  rw [List.range_succ, List.map_append]
  rfl
theorem rsum_n (p : Option Addr) (l : List UInt8) (n cap : Nat) (w : World) (hn : l.length = n) (hb : Bs w p l) (hl : l.length ≤ 70368744176640) (hnil : p = none → cap = 0) :
    Calls Tryd.prog 27 #[.slice p n cap] w fun e w' => e = .returned (.agg (row .u8 32 (sumAt l))) ∧ Below w.heap.size w w' := by
  subst hn
  exact rsum_any p l cap w hb hl hnil

/-- A row of bytes of the call's own is handed back. -/
def Gave (L : List UInt8) (w : World) (e : Ending) (w' : World) : Prop :=
  ∃ v, e = .returned v ∧ Own w.heap.size w' v L ∧ Below w.heap.size w w'

set_option maxHeartbeats 2000000 in
theorem flipped_any (p : Option Addr) (l : List UInt8) (n cap : Nat) (v : Nat) (w : World) (hn : l.length = n) (hb : Bs w p l) (hl : l.length ≤ 70368744170000) (hnil : p = none → cap = 0) (hv : v < 256) :
    Calls Tryd.prog 28 #[.slice p n cap, .int .u8 (v : Int)] w (Gave (padL (keyAt l) v) w) := by
  obtain ⟨hz3, hn3⟩ := zero_of_info info_32
  have HN := Lib.hid hn3
  clear hn3
  obtain ⟨X, hX⟩ : ∃ X, X = shortKey l := ⟨_, rfl⟩
  have hXl : X.length ≤ 64 := by rw [hX]; exact shortKey_length l
  have hlong : 64 < n → sumList l = X := fun h => by rw [hX, shortKey_long (by omega)]
  have hshort : ¬ 64 < n → l = X := fun h => by rw [hX, shortKey_short (by omega)]
  have HKX := Lib.hid (show keyAt l = byte X by rw [hX]; rfl)
  have HB := Lib.hid hb
  have HNn := Lib.hid hn
  rw [HKX.out]
  clear hX hb hn
  go_enter Tryd.func28, Tryd.ntmps28
  go_upto_if 11 with fail
  go_cut [0] (fun v wx => ∃ q c, v = .slice q X.length c ∧ Bs wx q X ∧ (q = none → c = 0) ∧ Below w.heap.size w wx)
  case first =>
    by_cases h64 : 64 < n
    · have hd : decide (64 < (n : Int)) = true := decide_eq_true (by omega)
      have HL := Lib.hid (hlong h64)
      have CS := Lib.hid (rsum_n p l n cap w HNn.out HB.out (by omega) hnil)
      clear hlong hshort
      go_wp2_with fail
      refine CS.out.mono ?_
      rintro e w1 ⟨rfl, hb1⟩
      go_wp2_with (with_reducible refine wpList_store_arr rfl 25 (.tmp 5) (.tmp 13) rfl w1.heap.size .u8 32 (sumAt l) rfl rfl 25 _ Arr.new HN ?_)
      go_meet
      have hA : Arr ((w1.alloc (.cells (row .u8 32 fun _ => 0) 25)).setRow w1.heap.size (row .u8 32 (sumAt l))) w1.heap.size .u8 32 25 (sumAt l) := Arr.new.setRow _
      exact ⟨some ⟨w1.heap.size, 0, none⟩, 32, by rw [← HL.out, sumList_length], by rw [← HL.out]; exact arr_bs hA (sumAt_lt l), (fun h => by cases h), below_setRow (hb1.alloc hb1.size _) hb1.size _⟩
    · have hd : decide (64 < (n : Int)) = false := decide_eq_false (by omega)
      have HL := Lib.hid (hshort h64)
      clear hlong hshort
      go_wp2_with fail
      go_meet
      exact ⟨p, cap, by rw [← HL.out, HNn.out], by rw [← HL.out]; exact HB.out, hnil, Below.refl _ _⟩
  case rest =>
    obtain ⟨q, c, rfl, hbq, hqnil, hbc⟩ := hcut
    have HQ := Lib.hid hbq
    have HBc := Lib.hid hbc
    clear hbq hbc hlong hshort HB HNn
    go_wp2_with fail
    go_loopw [6, 7] (fun o i wr => ∃ k : Nat, k ≤ 64 ∧ i = .int .i64 k ∧ Own wc.heap.size wr o (bytesOf k (padAt (byte X) v)) ∧ Below wc.heap.size wc wr) (fun _ i _ => 64 - (intOf i).toNat)
    case atStart => exact ⟨0, by decide, rfl, Own.new wc, below1 _ _⟩
    case round =>
      obtain ⟨k, hk, rfl, ho, hbr⟩ := hrel
      have HO := Lib.hid ho
      have HBr := Lib.hid hbr
      clear ho hbr
      by_cases hlt : k < 64
      · have hf := byte_lt X k
        have hpk : byte X k ^^^ v < 256 := Nat.xor_lt_two_pow (n := 8) hf hv
        have hx := u8_xor_nat (byte X k) v hf hv
        have hol : (bytesOf k (padAt (byte X) v)).length = k := bytesOf_length _ _
        have HL := Lib.hid (bytesOf_succ k (padAt (byte X) v))
        obtain ⟨L, hL⟩ : ∃ L, L = bytesOf k (padAt (byte X) v) := ⟨_, rfl⟩
        rw [← hL] at HO hol HL
        have hL64 : L.length ≤ 64 := by omega
        clear hL hol
        by_cases hin : k < X.length
        · obtain ⟨b', off, rfl, -, hc⟩ := (HQ.out.keep HBr.out) (by omega)
          have c0 := hc k hin
          rw [← MacT.byte_at X k hin] at c0
          clear hc
          obtain ⟨ch, hch⟩ : ∃ ch, ch = UInt8.ofNat (byte X k ^^^ v) := ⟨_, rfl⟩
          have HC3 := Lib.hid (show ((byte X k ^^^ v : Nat) : Int) = (ch.toNat : Int) by rw [hch, UInt8.toNat_ofNat', Nat.mod_eq_of_lt hpk])
          have HP2 := Lib.hid (show L ++ [UInt8.ofNat (padAt (byte X) v k)] = L ++ [ch] by rw [hch]; rfl)
          clear hch
          go_wp2_with (with_reducible refine wpList_append_bs (w0 := wc) rfl (.tmp 28) (.tmp 32) rfl u6 L rfl (HO.out.al _) (HBr.out.alloc HBr.out.size _) (some ⟨wr.heap.size, 0, none⟩) [ch] 1 1 rfl rfl (lit1_bs wr _ _ HC3.out) ?c2 ?c1 (L ++ [ch]) rfl ?_)
          case c2 => exact fun h => by cases h
          case c1 => omega
          intro v8 w8 ho8 hb8
          have HO8 := Lib.hid ho8
          clear ho8 c0 hx
          go_wp2_with fail
          go_roundw
          case rel => exact ⟨k + 1, by omega, by go_num, by rw [HL.out, HP2.out]; exact HO8.out, hb8⟩
          case measure => simp [intOf]; omega
        · have hz0 : byte X k = 0 := byte_over X k (by omega)
          rw [hz0] at hx
          have hx' : bits .xor .u8 0 (v : Int) = ((0 ^^^ v : Nat) : Int) := hx
          have hp2 : UInt8.ofNat (byte X k ^^^ v) = UInt8.ofNat (0 ^^^ v) := by rw [hz0]
          have HP2 := Lib.hid (show L ++ [UInt8.ofNat (padAt (byte X) v k)] = L ++ [UInt8.ofNat (0 ^^^ v)] by rw [← hp2]; rfl)
          have hpk2 : 0 ^^^ v < 256 := by rw [Nat.zero_xor]; exact hv
          clear hx hz0 hp2
          generalize hze : 0 ^^^ v = z at hx' hpk2 HP2
          clear hze
          go_wp2_with (with_reducible refine wpList_append_bs (w0 := wc) rfl (.tmp 28) (.tmp 32) rfl u6 L rfl (HO.out.al _) (HBr.out.alloc HBr.out.size _) (some ⟨wr.heap.size, 0, none⟩) [UInt8.ofNat z] 1 1 rfl rfl (lit1_bs wr _ _ ?c3) ?c2 ?c1 (L ++ [UInt8.ofNat z]) rfl ?_)
          case c3 => rw [UInt8.toNat_ofNat', Nat.mod_eq_of_lt hpk2]
          case c2 => exact fun h => by cases h
          case c1 => omega
          intro v8 w8 ho8 hb8
          have HO8 := Lib.hid ho8
          clear ho8 hx'
          go_wp2_with fail
          go_roundw
          case rel => exact ⟨k + 1, by omega, by go_num, by rw [HL.out, HP2.out]; exact HO8.out, hb8⟩
          case measure => simp [intOf]; omega
      · have hk64 : k = 64 := by omega
        subst hk64
        go_wp2_with fail
        go_ret
        exact ⟨u6, rfl, own_less HO.out HBc.out.size, HBc.out.trans (HBr.out.mono HBc.out.size)⟩

end Go.Proofs.YtjcohlpjlifolaaDoor.RefM
