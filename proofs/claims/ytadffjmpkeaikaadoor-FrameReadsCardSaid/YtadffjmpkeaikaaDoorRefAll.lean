/-
  All requests of bytes, one behind the other, as the document's own answers of layer 6 (package tipstaffref06) tell them.
-/
import Derived.Test.YtadffjmpkeaikaaDoorRefWords
import Derived.Test.YtadffjmpkeaikaaDoorFrameRd
import Derived.Test.YtadffjmpkeaikaaDoorFrameRead0
namespace Go.Proofs.YtadffjmpkeaikaaDoor.RefF
open Go.RowKit Kit BytesIn ReplyMath ReplyT NumMath NumL FrameMath FrameT
set_option linter.unusedVariables false
set_option maxRecDepth 100000

theorem one_cell (W : World) (u : Value) (t : TypeId) : ∀ j x, [u][j]? = some x → (W.alloc (.cells #[u] t)).cell? ((⟨W.heap.size, 0, none⟩ : Addr).add j) = some x := by
  intro j x hj
  match j, hj with
  | 0, hj => simp at hj; subst hj; rw [Addr.add_lit]; simp [World.cell?_alloc_mark]
  | j + 1, hj => simp at hj
theorem ownT_lt {F : Nat → Prop} {base : Nat} {w : World} {v : Value} {L : List (List (List UInt8))} (h : OwnT F base w v L) : ∀ k, v.ownBlock = some k → k < w.heap.size := by
  obtain ⟨-, vs, h, -⟩ := h
  exact fun k hk => (h.lt k hk).2
def vl : Value → Nat
  | .slice _ n _ => n
  | _ => 0
theorem nextP_is {ws : List (List UInt8)} {k : Nat} {w w' : World} {e : Ending} (h : NextP (.is ws k) w e w') : ∃ v, e = .returned (.tuple #[v, .int .i64 (k : Int), .int .i64 0]) ∧ AnsS w.heap.size w' v ws ∧ Below w.heap.size w w' := h
theorem nextP_part {w w' : World} {e : Ending} (h : NextP .part w e w') : ∃ v, e = .returned (.tuple #[v, .int .i64 0, .int .i64 0]) ∧ AnsS w.heap.size w' v [] ∧ Below w.heap.size w w' := h
theorem nextP_bad {w w' : World} {e : Ending} (h : NextP .bad w e w') : ∃ v, e = .returned (.tuple #[v, .int .i64 0, .int .i64 10]) ∧ AnsS w.heap.size w' v [] ∧ Below w.heap.size w w' := h
theorem ansS_form {base : Nat} {w : World} {v : Value} {L : List (List UInt8)} (h : AnsS base w v L) (n : Nat) (hn : L.length = n) : ∃ q c, v = .slice q n c ∧ Ss w q L ∧ n ≤ c ∧ c ≤ 9223372036854775807 ∧ (q = none → c = 0) := by
  subst hn
  obtain ⟨q, c, hv, hS, -, h1⟩ := h
  exact ⟨q, c, hv, hS, h1⟩
set_option maxHeartbeats 2000000 in
theorem rall (p : Option Addr) (l : List UInt8) (n c : Nat) (w : World) (R : List (List (List UInt8))) (t : List UInt8) (bad : Bool) (hn : l.length = n) (hb : Bs w p l) (hc : n ≤ c) (hcm : c ≤ 9223372036854775807) (hz : n ≤ 65536) (hnil : p = none → c = 0) (hr : Reads l R t bad) (hR : R.length ≤ 65536) :
    Calls Tryd.prog 20 #[.slice p n c] w fun e w' => ∃ q c' m, e = .returned (.tuple #[.slice q m c', .int .i64 (t.length : Int), .bool bad]) ∧ R.length = m ∧ OwnT (fun _ => False) w.heap.size w' (.slice q m c') R ∧ Below w.heap.size w w' := by
  have HB0 := Lib.hid (below1 w (.cells #[] 23))
  have HN := Lib.hid hn
  have HB := Lib.hid hb
  have HR := Lib.hid hr
  have HO0 := Lib.hid (OwnT.new (F := fun _ => False) (base := w.heap.size) (w := w) (Nat.le_refl _) (fun k h => h.elim))
  have HNil := Lib.hid hnil
  clear hn hb hr hnil
  go_enter Tryd.func20, Tryd.ntmps20
  go_wp2_with fail
  go_loopw [0, 5] (fun b v wr => ∃ (Q R' : List (List (List UInt8))) (l' : List UInt8) (q z : Option Addr) (c2 m n2 cz : Nat), v = .slice q m c2 ∧ b = .slice z n2 cz ∧ Hid (m = Q.length) ∧ Hid (l'.length = n2) ∧ Hid (Bs w z l') ∧ n2 ≤ cz ∧ cz ≤ 9223372036854775807 ∧ n2 ≤ 65536 ∧ Hid (z = none → cz = 0) ∧ Hid (OwnT (fun _ => False) w.heap.size wr (.slice q m c2) Q) ∧ Hid (R = Q ++ R') ∧ Hid (Reads l' R' t bad) ∧ Hid (Below w.heap.size w wr)) (fun b _ _ => vl b)
  case atStart => exact ⟨[], R, l, _, p, _, 0, n, c, rfl, rfl, Lib.hid rfl, HN, HB, hc, hcm, hz, HNil, HO0, Lib.hid rfl, HR, HB0⟩
  case round =>
    obtain ⟨Q, R', l', q, z, c2, m, n2, cz, rfl, rfl, HM, HL, HBz, hcz, hczm, hz2, HNz, HO, HRe, HRs, HBw⟩ := hrel
    have CN := Lib.hid (rnext z l' n2 cz wr HL.out (HBz.out.keep HBw.out) hcz hczm hz2)
    rcases HRs.out with h | h | ⟨h, hs⟩ | ⟨h, hs⟩
    · rw [h] at CN
      have HT := Lib.hid (show R = Q by rw [HRe.out, List.append_nil])
      clear h
      go_wp2_with fail
      with_reducible refine CN.out.mono ?_
      rintro e w2 h2
      obtain ⟨v2, rfl, ha2, hb2⟩ := nextP_bad h2
      obtain ⟨q2, c3, rfl, -⟩ := ansS_form ha2 0 rfl
      have HB2 := Lib.hid (HBw.out.trans (hb2.mono HBw.out.size))
      have HO2 := Lib.hid (HO.out.keep hb2)
      clear ha2 hb2 h2 CN
      go_wp2_with fail
      go_ret3
      refine ⟨q, c2, m, ?_, by rw [HT.out, HM.out], by rw [HT.out]; exact HO2.out, HB2.out⟩
      rw [HL.out]
      rfl
    · rw [h] at CN
      have HT := Lib.hid (show R = Q by rw [HRe.out, List.append_nil])
      clear h
      go_wp2_with fail
      with_reducible refine CN.out.mono ?_
      rintro e w2 h2
      obtain ⟨v2, rfl, ha2, hb2⟩ := nextP_part h2
      obtain ⟨q2, c3, rfl, -⟩ := ansS_form ha2 0 rfl
      have HB2 := Lib.hid (HBw.out.trans (hb2.mono HBw.out.size))
      have HO2 := Lib.hid (HO.out.keep hb2)
      clear ha2 hb2 h2 CN
      go_wp2_with fail
      go_ret3
      refine ⟨q, c2, m, ?_, by rw [HT.out, HM.out], by rw [HT.out]; exact HO2.out, HB2.out⟩
      rw [HL.out]
      rfl
    · rename_i kk
      rw [h] at CN
      obtain ⟨-, k1, k2, -⟩ := nextL_is h
      rw [HL.out] at k2
      have HRs2 := Lib.hid hs
      clear h hs
      have i1 : ((kk : Int) == 0) = false := by rw [beq_eq_false_iff_ne]; omega
      go_wp2_with fail
      with_reducible refine CN.out.mono ?_
      rintro e w2 h2
      obtain ⟨v2, rfl, ha2, hb2⟩ := nextP_is h2
      obtain ⟨q2, c3, rfl, -⟩ := ansS_form ha2 0 rfl
      have HB2 := Lib.hid (HBw.out.trans (hb2.mono HBw.out.size))
      have HO2 := Lib.hid (HO.out.keep hb2)
      have HBz2 := Lib.hid (show Bs w (ReplyT.partAt z cz kk) (l'.drop kk) by
        have h := partAt_bs (c := cz) HBz.out (by rw [HL.out]; exact hcz) kk n2 (by rw [HL.out]; exact Nat.le_refl _)
        rwa [List.take_of_length_le (by rw [List.length_drop, HL.out]; exact Nat.le_refl _)] at h)
      have HLd := Lib.hid (show (l'.drop kk).length = n2 - kk by rw [List.length_drop, HL.out])
      have HNd := Lib.hid (show ReplyT.partAt z cz kk = none → cz - kk = 0 from partAt_none HNz.out)
      have q1 := fun W => sl_l z n2 cz kk k2 W
      obtain ⟨zz, hzz⟩ : ∃ zz, zz = ReplyT.partAt z cz kk := ⟨_, rfl⟩
      rw [← hzz] at HBz2 HNd q1
      clear ha2 hb2 h2 CN hzz
      go_wp2_with fail
      go_roundw
      case rel => exact ⟨Q, R', l'.drop kk, q, zz, c2, m, n2 - kk, cz - kk, rfl, rfl, HM, HLd, HBz2, by omega, by omega, by omega, HNd, HO2, HRe, HRs2, HB2⟩
      case measure => simp only [vl]; omega
    · rename_i w0 ws kk R2
      rw [h] at CN
      obtain ⟨k0, k1, k2, -⟩ := nextL_is h
      rw [HL.out] at k2
      have HRs2 := Lib.hid hs
      clear h hs
      have i1 : ((kk : Int) == 0) = false := by rw [beq_eq_false_iff_ne]; omega
      obtain ⟨rr, hrr⟩ : ∃ rr, rr = w0 :: ws := ⟨_, rfl⟩
      rw [← hrr] at CN HRe k0
      obtain ⟨nr, hnr⟩ : ∃ nr, nr = rr.length := ⟨_, rfl⟩
      have HNr := Lib.hid hnr
      have i2 : 0 < nr := by rw [hnr, hrr]; exact Nat.succ_pos _
      clear hrr hnr
      go_wp2_with fail
      with_reducible refine CN.out.mono ?_
      rintro e w2 h2
      obtain ⟨v2, rfl, ha2, hb2⟩ := nextP_is h2
      have HU := ha2.off (F := fun _ => False) (fun k h => h.elim)
      obtain ⟨q2, c3, hv2, -, hge, -⟩ := id ha2
      rw [← HNr.out] at hv2
      subst hv2
      have hal := below1 w2 (.cells #[.slice q2 nr c3] 23)
      have HB2 := Lib.hid (HBw.out.trans ((hb2.trans (hal.mono hb2.size)).mono HBw.out.size))
      have HO2 := Lib.hid ((HO.out.keep hb2).keep hal)
      have HUq := Lib.hid (HU.turn (Turn.of_below (F := fun _ => False) hal))
      have HOne := Lib.hid HU.one
      have HAp := Lib.hid (show ∀ p n c', Value.slice q2 nr c3 = .slice (some p) n c' → 0 < n → (Value.slice q m c2).ownBlock ≠ some p.block from fun p n c' hu _ he => by
        injection hu with e1 e2 e3
        have h4 := hge p e1
        have h5 := ownT_lt HO.out _ he
        omega)
      have HSz := Lib.hid (show Q.length + 1 ≤ 1048576 by
        have h1 := congrArg List.length HRe.out
        rw [List.length_append] at h1
        omega)
      have HR2 := Lib.hid (show R = (Q ++ [rr]) ++ R2 by rw [HRe.out]; simp)
      have HBz2 := Lib.hid (show Bs w (ReplyT.partAt z cz kk) (l'.drop kk) by
        have h := partAt_bs (c := cz) HBz.out (by rw [HL.out]; exact hcz) kk n2 (by rw [HL.out]; exact Nat.le_refl _)
        rwa [List.take_of_length_le (by rw [List.length_drop, HL.out]; exact Nat.le_refl _)] at h)
      have HLd := Lib.hid (show (l'.drop kk).length = n2 - kk by rw [List.length_drop, HL.out])
      have HNd := Lib.hid (show ReplyT.partAt z cz kk = none → cz - kk = 0 from partAt_none HNz.out)
      have q1 := fun W => sl_l z n2 cz kk k2 W
      obtain ⟨zz, hzz⟩ : ∃ zz, zz = ReplyT.partAt z cz kk := ⟨_, rfl⟩
      rw [← hzz] at HBz2 HNd q1
      clear ha2 hb2 h2 CN hzz hge hal HU
      go_wp2_with (at_builtin; refine wpList_append_t (F0 := fun _ => False) (F := fun _ => False) (w0 := w) rfl (.tmp 29) (.tmp 31) rfl (.slice q m c2) Q rfl HO2.out (Turn.of_below HB2.out) (fun k h => h.elim) ⟨w2.heap.size, 0, none⟩ 1 1 [.slice q2 nr c3] [rr] rfl rfl rfl (one_cell w2 (.slice q2 nr c3) _) (fun j hj => (match j, hj with | 0, _ => ⟨.slice q2 nr c3, rfl, HUq.out, HAp.out⟩ | j + 1, hj => absurd hj (by simp))) (fun x hx => by simp at hx; subst hx; exact HOne.out) HSz.out _ rfl ?_; intro v3 w3 hO3 hT3 hk3 hs3)
      obtain ⟨q3, c4, rfl⟩ := hO3.form
      obtain ⟨m3, hm3⟩ : ∃ m3, m3 = (Q ++ [rr]).length := ⟨_, rfl⟩
      rw [← hm3] at hO3 ⊢
      have HO3 := Lib.hid hO3
      have HB3 := Lib.hid (hT3.below (B := w.heap.size) (fun k h => h.elim) (Nat.le_refl _))
      have HM3 := Lib.hid hm3
      clear hk3 hs3 hO3 hT3 hm3
      go_wp2_with fail
      go_roundw
      case rel => exact ⟨Q ++ [rr], R2, l'.drop kk, q3, zz, c4, m3, n2 - kk, cz - kk, rfl, rfl, HM3, HLd, HBz2, by omega, by omega, by omega, HNd, HO3, HR2, HRs2, HB3⟩
      case measure => simp only [vl]; omega

end Go.Proofs.YtadffjmpkeaikaaDoor.RefF
