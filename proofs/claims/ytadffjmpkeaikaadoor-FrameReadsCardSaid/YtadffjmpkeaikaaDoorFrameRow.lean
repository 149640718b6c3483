/-
  The landed code of layer 6: frame.row, frame.inline, frame.Next.
-/
import Derived.Test.YtadffjmpkeaikaaDoorFrameBulk
import Derived.Test.YtadffjmpkeaikaaDoorFrameTexts
import Derived.Test.YtadffjmpkeaikaaDoorFrameSplit
namespace Go.Proofs.YtadffjmpkeaikaaDoor.FrameM
open Go.RowKit Kit BytesIn ReplyMath ReplyT NumMath NumL FrameMath FrameT
set_option linter.unusedVariables false
set_option maxRecDepth 100000

/-- So many words told already, and how many bytes they took. -/
def rowR (W : List (List UInt8)) (X : Nat) : Rq → Rq
  | .bad => .bad
  | .part => .part
  | .is ws u => .is (W ++ ws) (X + u)
theorem rowR_step (W : List (List UInt8)) (X m : Nat) (l : List UInt8) : rowR W X (rowOf (m + 1) (l.drop X)) = match bulkR (l.drop X) with
    | .bad => .bad
    | .part => .part
    | .is w t => rowR (W ++ w) (X + t) (rowOf m (l.drop (X + t))) := by
  rw [rowOf]
  unfold bulkR
  cases headL 36 0 512 (l.drop X) with
  | bad => rfl
  | part => rfl
  | is k j =>
    simp only
    cases wordAt k ((l.drop X).drop j) with
    | bad => rfl
    | part => rfl
    | is w t =>
      simp only
      rw [List.drop_drop]
      cases rowOf m (l.drop (X + (j + t))) with
      | bad => rfl
      | part => rfl
      | is ws u =>
        show Rq.is (W ++ (w ++ ws)) (X + (j + t + u)) = .is (W ++ w ++ ws) (X + (j + t) + u)
        rw [List.append_assoc]
        congr 1
        omega
theorem rowL_start {l : List UInt8} {n j : Nat} (h : headL 42 1 32 l = .is n j) : rowL l = rowR [] j (rowOf n (l.drop j)) := by
  unfold rowL
  rw [h]
  simp only
  cases rowOf n (l.drop j) with
  | bad => rfl
  | part => rfl
  | is ws u => rfl
theorem ownR_made (w : World) (n : Nat) (hn : n ≤ 1048576) : OwnR w.heap.size (w.alloc (.cells (madeCells (Value.slice none 0 0).cells n) 22)) (.slice (some ⟨w.heap.size, 0, none⟩) 0 n) [] :=
  ⟨[], World.ownsRow_made w _ n (Nat.le_refl _) (by unfold maxLen; omega) (by rw [size_madeCells, Nat.mul_one]), fun j hj => absurd hj (by simp)⟩
theorem bulkR_len {l : List UInt8} {ws : List (List UInt8)} {k : Nat} (h : bulkR l = .is ws k) : k ≤ l.length := by
  unfold bulkR at h
  cases hh : headL 36 0 512 l with
  | bad => rw [hh] at h; cases h
  | part => rw [hh] at h; cases h
  | is m j =>
    rw [hh] at h
    simp only at h
    obtain ⟨b1, b2, -⟩ := headL_is hh
    cases hw : wordAt m (l.drop j) with
    | bad => rw [hw] at h; cases h
    | part => rw [hw] at h; cases h
    | is w t =>
      rw [hw] at h
      simp only at h
      injection h with h1 h2
      obtain ⟨c1, c2, -⟩ := wordAt_is hw
      rw [List.length_drop] at c2
      omega

set_option maxHeartbeats 4000000 in
theorem row_any (p : Option Addr) (l : List UInt8) (n c : Nat) (w : World) (hn : l.length = n) (hb : Bs w p l) (hc : n ≤ c) (hcm : c ≤ 9223372036854775807) (hz : n ≤ 65536) (hnil : p = none → c = 0) (hg : Gd w) :
    Calls Tryd.prog 25 #[.slice p n c] w (NextP (rowL l) w) := by
  have CH := head_any 42 1 32 p l n c w hn hb hc hcm (by omega) hnil (by decide) hg
  have HR : Hid (rowL l = match headL 42 1 32 l with | .bad => .bad | .part => .part | .is n j => (match rowOf n (l.drop j) with | .bad => .bad | .part => .part | .is ws u => .is ws (j + u))) := Lib.hid rfl
  rcases hh : headL 42 1 32 l with _ | _ | ⟨k, j⟩
  · rw [hh] at CH
    have CH : Hid (Calls Tryd.prog 31 #[.slice p n c, .int .u8 42, .int .i64 1, .int .i64 32] w fun e w' => Below w.heap.size w w' ∧ e = .returned (.tuple #[.int .i64 0, .int .i64 0, .int .i64 10])) := Lib.hid CH
    have HX := Lib.hid (show rowL l = .bad by rw [HR.out, hh])
    clear hh HR hb hnil hg
    go_enter Tryd.func25, Tryd.ntmps25
    go_wp2_with fail
    refine CH.out.mono ?_
    rintro e w1 ⟨hb1, rfl⟩
    go_wp2_with fail
    go_ret3
    exact next_bad HX.out hb1
  · rw [hh] at CH
    have CH : Hid (Calls Tryd.prog 31 #[.slice p n c, .int .u8 42, .int .i64 1, .int .i64 32] w fun e w' => Below w.heap.size w w' ∧ e = .returned (.tuple #[.int .i64 0, .int .i64 0, .int .i64 0])) := Lib.hid CH
    have HX := Lib.hid (show rowL l = .part by rw [HR.out, hh])
    clear hh HR hb hnil hg
    go_enter Tryd.func25, Tryd.ntmps25
    go_wp2_with fail
    refine CH.out.mono ?_
    rintro e w1 ⟨hb1, rfl⟩
    go_wp2_with fail
    go_ret3
    exact next_none HX.out hb1
  · rw [hh] at CH
    have CH : Hid (Calls Tryd.prog 31 #[.slice p n c, .int .u8 42, .int .i64 1, .int .i64 32] w fun e w' => Below w.heap.size w w' ∧ e = .returned (.tuple #[.int .i64 (k : Int), .int .i64 (j : Int), .int .i64 0])) := Lib.hid CH
    obtain ⟨h1, h2, -, h4, -⟩ := headL_is hh
    have hk32 : k ≤ 32 := by omega
    have HR2 := Lib.hid (rowL_start hh)
    have t0 : ((j : Int) == 0) = false := by rw [beq_eq_false_iff_ne]; omega
    obtain ⟨i0, hi0, hz0, hz1, hzb⟩ := info_parts row_parts
    have hmk := fun W => run_make (P := Tryd.prog) W 60 22 i0 (.slice none 0 0) Tryd.underlying60 hi0 hz0 .i64 .i64 0 (k : Int) (by omega) (by omega) (by rw [hzb]; omega) (by omega)
    rw [hz1, show (k : Int).toNat * 1 = k by omega, show (k : Int).toNat = k by omega] at hmk
    obtain ⟨b, off, rfl, hbl, -⟩ := hb (by omega)
    have HN := Lib.hid hn
    have HB := Lib.hid hb
    have HG := Lib.hid hg
    clear hh HR hb hnil hg h4 hi0 hz0 hz1 hzb
    go_enter Tryd.func25, Tryd.ntmps25
    go_wp2_with fail
    refine CH.out.mono ?_
    rintro e w1 ⟨hb1, rfl⟩
    have hmk1 := hmk w1
    have hbs1 := hb1.size
    have HB0 := Lib.hid (hb1.alloc hbs1 (.cells (madeCells (Value.slice none 0 0).cells k) 22))
    have HO0 := Lib.hid (show OwnR w.heap.size (w1.alloc (.cells (madeCells (Value.slice none 0 0).cells k) 22)) (.slice (some ⟨w1.heap.size, 0, none⟩) 0 k) [] from
      ⟨[], World.ownsRow_made w1 _ k hbs1 (by unfold maxLen; omega) (by rw [size_madeCells, Nat.mul_one]), fun j hj => absurd hj (by simp)⟩)
    clear hmk hb1
    go_wp2_with fail
    go_loopw [6, 8, 24] (fun x v i wr => ∃ (m X : Nat) (W : List (List UInt8)), m ≤ k ∧ X ≤ n ∧ x = .int .i64 X ∧ i = .int .i64 m ∧ Below w.heap.size w wr ∧ Hid (OwnR w.heap.size wr v W) ∧ Hid (W.length = m) ∧ Hid (rowL l = rowR W X (rowOf (k - m) (l.drop X)))) (fun _ _ i _ => k - (intOf i).toNat)
    case atStart => exact ⟨0, j, [], Nat.zero_le _, by omega, rfl, rfl, HB0.out, HO0, Lib.hid rfl, HR2⟩
    case round =>
      obtain ⟨m, X, W, hm, hX, rfl, rfl, hb, HO, HWl, HW⟩ := hrel
      have hbs := hb.size
      clear HB0 HO0 CH HR2 hmk1 t0 hbs1
      by_cases hlt : m < k
      · have d1 : decide ((m : Int) < (k : Int)) = true := decide_eq_true (by omega)
        have q1 := fun W => sl_l (some ⟨b, off, none⟩) n c X hX W
        have hdl : (l.drop X).length = n - X := by rw [List.length_drop, HN.out]
        have CB := bulkf_any (ReplyT.partAt (some ⟨b, off, none⟩) c X) (l.drop X) (n - X) (c - X) wr hdl (by
          have h1 := partAt_bs (c := c) (HB.out.keep hb) (by rw [HN.out]; exact hc) X n (by rw [HN.out]; exact Nat.le_refl _)
          rwa [List.take_of_length_le (by omega)] at h1) (by omega) (by omega) (by omega) (fun h => partAt_none (p := some ⟨b, off, none⟩) (fun h => by cases h) h) (HG.out.keep hb)
        have HPB := Lib.hid (fun a => (partAt_block (p := some ⟨b, off, none⟩) (c := c) (lo := X) (a := a)))
        obtain ⟨P, hP⟩ : ∃ P, P = ReplyT.partAt (some ⟨b, off, none⟩) c X := ⟨_, rfl⟩
        rw [← hP] at q1 CB HPB
        have HST := Lib.hid (show rowL l = match bulkR (l.drop X) with | .bad => .bad | .part => .part | .is w t => rowR (W ++ w) (X + t) (rowOf (k - (m + 1)) (l.drop (X + t))) by
          rw [HW.out, show k - m = k - (m + 1) + 1 by omega]
          exact rowR_step W X _ l)
        clear hP
        rcases hr : bulkR (l.drop X) with _ | _ | ⟨ws, t⟩
        · rw [hr] at CB
          have CB : Hid (Calls Tryd.prog 32 #[.slice P (n - X) (c - X)] wr fun e w' => Below wr.heap.size wr w' ∧ e = .returned (.tuple #[.slice none 0 0, .int .i64 0, .int .i64 10])) := Lib.hid CB
          have HX := Lib.hid (show rowL l = .bad by rw [HST.out, hr])
          clear hr hdl
          go_wp2_with fail
          refine CB.out.mono ?_
          rintro e w2 ⟨hb2, rfl⟩
          go_wp2_with fail
          go_ret3
          exact next_bad HX.out (hb.trans (hb2.mono hbs))
        · rw [hr] at CB
          have CB : Hid (Calls Tryd.prog 32 #[.slice P (n - X) (c - X)] wr fun e w' => Below wr.heap.size wr w' ∧ e = .returned (.tuple #[.slice none 0 0, .int .i64 0, .int .i64 0])) := Lib.hid CB
          have HX := Lib.hid (show rowL l = .part by rw [HST.out, hr])
          clear hr hdl
          go_wp2_with fail
          refine CB.out.mono ?_
          rintro e w2 ⟨hb2, rfl⟩
          go_wp2_with fail
          go_ret3
          exact next_none HX.out (hb.trans (hb2.mono hbs))
        · rw [hr] at CB
          have CB : Hid (Calls Tryd.prog 32 #[.slice P (n - X) (c - X)] wr fun e w' => Below wr.heap.size wr w' ∧ ∃ v s, ws = [s] ∧ e = .returned (.tuple #[v, .int .i64 (t : Int), .int .i64 0]) ∧ Ok w' v s ∧ 1 ≤ t ∧ ∀ a m c, v = .slice (some a) m c → ∃ a', P = some a' ∧ a'.block = a.block) := Lib.hid CB
          have htl := bulkR_len hr
          rw [hdl] at htl
          have HX := Lib.hid (show rowL l = rowR (W ++ ws) (X + t) (rowOf (k - (m + 1)) (l.drop (X + t))) by rw [HST.out, hr])
          have e1 : IntKind.i64.wrap ((X : Int) + (t : Int)) = ((X + t : Nat) : Int) := by rw [show (X : Int) + (t : Int) = ((X + t : Nat) : Int) by omega]; exact IntWalk.i64_in _ (by omega)
          clear hr hdl
          go_wp2_with fail
          refine CB.out.mono ?_
          rintro e w2 ⟨hb2, v, s, rfl, rfl, hok, ht1, hblk⟩
          have t3 : ((t : Int) == 0) = false := by rw [beq_eq_false_iff_ne]; omega
          have hb2w := hb.trans (hb2.mono hbs)
          have HOq := Lib.hid ((HO.out.keep hb2).keep (below1 w2 (.cells #[v] 22)))
          have HBq := Lib.hid (hb2w.alloc hb2w.size (.cells #[v] 22))
          have HLa := Lib.hid (laid_new w2 [v])
          have HOk := Lib.hid (hok.keep (below1 w2 (.cells #[v] 22)))
          have HAp := Lib.hid (show ∀ p n c, v = .slice (some p) n c → 0 < n → u8.ownBlock ≠ some p.block from fun p n c hv _ he => by
            obtain ⟨a1, ha1, hab1⟩ := hblk p n c hv
            obtain ⟨a2, ha2, hab2⟩ := HPB.out a1 ha1
            injection ha2 with ha2
            subst ha2
            have h1 := (HO.out.lt _ he).1
            have hab2 : b = a1.block := hab2
            omega)
          have HSz := Lib.hid (show W.length + 1 ≤ 1048576 by have := HWl.out; omega)
          have HOne := Lib.hid hok.one
          obtain ⟨qv, cv, hv, -⟩ := id hok
          obtain ⟨nv, hnv⟩ : ∃ nv, nv = s.length := ⟨_, rfl⟩
          rw [← hnv] at hv
          subst hv
          clear hok hblk hb2 hb2w hnv
          go_wp2_with (at_builtin; refine wpList_append_r (w0 := w) rfl (.tmp 37) (.tmp 39) rfl _ W rfl HOq.out HBq.out w2.heap.size 1 1 [.slice qv nv cv] [s] rfl rfl rfl HLa.out (one_row HOk.out HAp.out) (one_cells HOk.out) HSz.out _ rfl ?_; intro v3 w3 hO3 hb3)
          have HO3 := Lib.hid hO3
          clear hO3
          go_roundw
          case rel => exact ⟨m + 1, X + t, W ++ [s], by omega, by omega, by go_num, by go_num, hb3, HO3, Lib.hid (by rw [List.length_append, HWl.out]; rfl), HX⟩
          case measure => simp [intOf]; omega
      · have d1 : decide ((m : Int) < (k : Int)) = false := decide_eq_false (by omega)
        have HX := Lib.hid (show rowL l = .is W X by
          rw [HW.out, show k - m = 0 by omega, rowOf]
          show Rq.is (W ++ []) (X + 0) = _
          rw [List.append_nil, Nat.add_zero])
        obtain ⟨qr, cr, hv, hRs, -⟩ := HO.out.rs
        have CT := texts_any qr W m cr wr HWl.out hRs (by omega)
        rw [HWl.out] at hv
        subst hv
        have CT := Lib.hid CT
        clear hRs HO HW
        go_wp2_with fail
        refine CT.out.mono ?_
        rintro e w2 ⟨v, rfl, ha, hb2⟩
        go_wp2_with fail
        go_ret3
        exact next_is HX.out rfl (ha.base hbs) (hb.trans (hb2.mono hbs))

end Go.Proofs.YtadffjmpkeaikaaDoor.FrameM
