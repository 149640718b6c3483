/-
  The document's own store: its keys; what is held is let go of.
-/
import Derived.Test.YtbcjgkedlapmhaaRefSto4
namespace Go.Proofs.Ytbcjgkedlapmhaa.RefY
open Go.RowKit Kit StrT RowG BOrd ValT StoT
open Go.Op (bytesLess)
set_option linter.unusedVariables false
set_option maxRecDepth 100000

theorem keys_step {P : List (En PV)} {j : Nat} (hj : j < P.length) : keysS (P.take (j + 1)) = if P[j].past then keysS (P.take j) else keysS (P.take j) ++ [P[j].key] := by
  unfold keysS
  rw [List.take_succ_eq_append_getElem hj, List.filter_append, List.map_append]
  cases h : P[j].past <;> simp [h]
theorem purge_step {P : List (En PV)} {j : Nat} (hj : j < P.length) : (P.take (j + 1)).filter (fun e => !e.past) = if P[j].past then (P.take j).filter (fun e => !e.past) else (P.take j).filter (fun e => !e.past) ++ [P[j]] := by
  rw [List.take_succ_eq_append_getElem hj, List.filter_append]
  cases h : P[j].past <;> simp [h]
def TextsK (L : List (List UInt8)) (w : World) (e : Ending) (w' : World) : Prop := ∃ v, e = .returned v ∧ AnsR strE w.heap.size w' v L ∧ Below w.heap.size w w'
set_option maxHeartbeats 4000000 in
theorem rkeys {y : Nat} {ql : Option Addr} {nl cl : Nat} {qc : Option Addr} {nc cc : Nat} {P : List (En PV)} {Q : List Cn} {t : Nat} (w : World) (H : YR w y ql nl cl qc nc cc P Q t) (hz : nl ≤ 1000000) :
    Calls Try.prog 28 #[.pointer (some ⟨y, 0, none⟩)] w (TextsK (keysS P) w) := by
  have HH := Lib.hid H
  have HN := Lib.hid H.rl.len
  have HO := Lib.hid (ownR_new strE w.heap.size w w.heap.size rfl (Nat.le_refl _))
  have HB0 := Lib.hid (show Below w.heap.size w (w.alloc (.cells #[] strE.ty)) from (Below.refl _ _).alloc (Nat.le_refl _) _)
  have HRk := Lib.hid (fun W (hb : Below w.heap.size w W) => (⟨yr_cells (H.same (w' := W) (fun k hk => hb.block k (H.lt k hk))), H.rl.rs.keep hb⟩ : _ ∧ Rs enE W ql P))
  clear H
  go_enter Try.func28, Try.ntmps28
  go_wp2_with fail
  go_loopw [3, 4] (fun v i wr => ∃ j : Nat, j ≤ nl ∧ i = .int .i64 (j : Int) ∧ Hid (OwnR strE w.heap.size wr v (keysS (P.take j))) ∧ Hid (Below w.heap.size w wr)) (fun _ i _ => nl - (intOf i).toNat)
  case atStart => exact ⟨0, Nat.zero_le _, rfl, HO, HB0⟩
  case round =>
    obtain ⟨j, hj, rfl, HOw, HB⟩ := hrel
    obtain ⟨⟨c0, c1, c2⟩, HR⟩ := HRk.out wr HB.out
    have HRs := Lib.hid HR
    clear HR
    by_cases hlt : j < nl
    · have d1 : decide ((j : Int) < (nl : Int)) = true := decide_eq_true (by omega)
      have hj0 : (0 : Int) ≤ (j : Int) := by omega
      have hjn : (j : Int) < (nl : Int) := by omega
      have hjl : j < P.length := by rw [HN.out]; exact hlt
      obtain ⟨b, off, rfl, hbl, u0, -, -, -, -, -, -, -, u8⟩ := en_cells HRs.out j hjl
      have HS := Lib.hid (keys_step hjl)
      have HLn := Lib.hid (show (keysS (P.take j)).length ≤ 1048576 by
        unfold keysS
        rw [List.length_map]
        have := List.length_filter_le (fun e : En PV => !e.past) (P.take j)
        rw [List.length_take] at this
        omega)
      generalize P[j].key = X at u0 HS
      generalize P[j].past = pa at u8 HS
      obtain ⟨T, hT⟩ : ∃ T : ByteArray, T = ⟨X.toArray⟩ := ⟨_, rfl⟩
      rw [← hT] at u0
      cases pa with
      | true =>
        have HOx := Lib.hid (show OwnR strE w.heap.size wr u3 (keysS (P.take (j + 1))) by rw [HS.out]; exact HOw.out)
        clear hT hbl u0
        go_wp2_with fail
        go_roundw
        case rel => exact ⟨j + 1, by omega, by go_num, HOx, HB⟩
        case measure => simp [intOf]; omega
      | false =>
        have HOx := Lib.hid (show keysS (P.take (j + 1)) = keysS (P.take j) ++ [X] from HS.out)
        have HO1 := Lib.hid (HOw.out.keep (show Below wr.heap.size wr (wr.alloc (.cells #[.string T] strE.ty)) from (Below.refl _ _).alloc (Nat.le_refl _) _))
        have HC := Lib.hid (rec_new strE wr wr.heap.size X #[.string T] (by rw [hT]; rfl) rfl)
        have HBa := Lib.hid (HB.out.alloc HB.out.size (.cells #[.string T] strE.ty))
        clear hT hbl
        go_wp2_with (at_builtin; refine wpList_append_r strE (w0 := w) rfl (.tmp 24) (.tmp 33) rfl _ _ rfl HO1.out HBa.out wr.heap.size X 1 rfl HC.out HLn.out ?_; intro v' w3 hown1 hb3)
        go_roundw
        case rel => exact ⟨j + 1, by omega, by go_num, Lib.hid (by rw [HOx.out]; exact hown1), Lib.hid hb3⟩
        case measure => simp [intOf]; omega
    · have d1 : decide ((j : Int) < (nl : Int)) = false := decide_eq_false (by omega)
      have HX := Lib.hid (show AnsR strE w.heap.size wr u3 (keysS P) from by
        have h := HOw.out
        rw [List.take_of_length_le (by rw [HN.out]; omega)] at h
        exact h.ans)
      go_wp2_with fail
      go_ret
      exact ⟨_, rfl, HX.out, HB.out⟩

set_option maxHeartbeats 4000000 in
theorem rpurge {y : Nat} {ql : Option Addr} {nl cl : Nat} {qc : Option Addr} {nc cc : Nat} {P : List (En PV)} {Q : List Cn} {t : Nat} (w : World) (H : YR w y ql nl cl qc nc cc P Q t) (hz : nl ≤ 1000000) :
    Calls Try.prog 22 #[.pointer (some ⟨y, 0, none⟩)] w fun e w' => e = .returned (.int .i64 ((P.length - (P.filter (fun e => !e.past)).length : Nat) : Int)) ∧
      ∃ ql' nl' cl', YR w' y ql' nl' cl' qc nc cc (P.filter fun e => !e.past) Q t ∧ YStep w y ql qc w' ql' qc := by
  obtain ⟨Z, hZ⟩ : ∃ Z, Z = P.filter fun e => !e.past := ⟨_, rfl⟩
  rw [← hZ]
  have HZ := Lib.hid hZ
  clear hZ
  have HH := Lib.hid H
  have HN := Lib.hid H.rl.len
  have HO := Lib.hid (ownR_new enE w.heap.size w w.heap.size rfl (Nat.le_refl _))
  have HB0 := Lib.hid (show Below w.heap.size w (w.alloc (.cells #[] enE.ty)) from (Below.refl _ _).alloc (Nat.le_refl _) _)
  have HRk := Lib.hid (fun W (hb : Below w.heap.size w W) => (⟨yr_cells (H.same (w' := W) (fun k hk => hb.block k (H.lt k hk))), H.rl.rs.keep hb⟩ : _ ∧ Rs enE W ql P))
  clear H
  go_enter Try.func22, Try.ntmps22
  go_wp2_with fail
  go_loopw [3, 4] (fun v i wr => ∃ j : Nat, j ≤ nl ∧ i = .int .i64 (j : Int) ∧ Hid (OwnR enE w.heap.size wr v ((P.take j).filter fun e => !e.past)) ∧ Hid (Below w.heap.size w wr)) (fun _ i _ => nl - (intOf i).toNat)
  case atStart => exact ⟨0, Nat.zero_le _, rfl, HO, HB0⟩
  case round =>
    obtain ⟨j, hj, rfl, HOw, HB⟩ := hrel
    obtain ⟨⟨c0, c1, c2⟩, HR⟩ := HRk.out wr HB.out
    have HRs := Lib.hid HR
    clear HR
    by_cases hlt : j < nl
    · have d1 : decide ((j : Int) < (nl : Int)) = true := decide_eq_true (by omega)
      have hj0 : (0 : Int) ≤ (j : Int) := by omega
      have hjn : (j : Int) < (nl : Int) := by omega
      have hjl : j < P.length := by rw [HN.out]; exact hlt
      obtain ⟨b, off, rfl, hbl, u0, u1, u2, u3', u4, u5, u6, u7, u8⟩ := en_cells HRs.out j hjl
      have HS := Lib.hid (purge_step hjl)
      have HLn := Lib.hid (show ((P.take j).filter fun e => !e.past).length ≤ 1048576 by
        have := List.length_filter_le (fun e : En PV => !e.past) (P.take j)
        rw [List.length_take] at this
        omega)
      generalize P[j] = X at u0 u1 u2 u3' u4 u5 u6 u7 u8 HS
      obtain ⟨xk, v, du, on, past⟩ := X
      simp only at u0 u1 u2 u3' u4 u5 u6 u7 u8 HS
      obtain ⟨A, hA⟩ : ∃ A : ByteArray, A = ⟨xk.toArray⟩ := ⟨_, rfl⟩
      rw [← hA] at u0
      cases past with
      | true =>
        have HOx := Lib.hid (show OwnR enE w.heap.size wr u3 ((P.take (j + 1)).filter fun e => !e.past) by rw [HS.out]; exact HOw.out)
        clear hA hbl u0 u1 u2 u3' u4 u5 u6 u7
        go_wp2_with fail
        go_roundw
        case rel => exact ⟨j + 1, by omega, by go_num, HOx, HB⟩
        case measure => simp [intOf]; omega
      | false =>
        have HOx := Lib.hid (show ((P.take (j + 1)).filter fun e => !e.past) = ((P.take j).filter fun e => !e.past) ++ [(⟨xk, v, du, on, false⟩ : En PV)] from HS.out)
        have HO1 := Lib.hid (HOw.out.keep (show Below wr.heap.size wr (wr.alloc (.cells #[.string A, .int .u8 v.k, .string v.S, .slice v.ql v.nl v.cl, .slice v.qh v.nh v.ch, .slice v.qz v.nz v.cz, .int .i64 du, .bool on, .bool false] enE.ty)) from (Below.refl _ _).alloc (Nat.le_refl _) _))
        have HC := Lib.hid (rec_new enE wr wr.heap.size (⟨xk, v, du, on, false⟩ : En PV) #[.string A, .int .u8 v.k, .string v.S, .slice v.ql v.nl v.cl, .slice v.qh v.nh v.ch, .slice v.qz v.nz v.cz, .int .i64 du, .bool on, .bool false] (by rw [hA]; rfl) rfl)
        have HBa := Lib.hid (HB.out.alloc HB.out.size (.cells #[.string A, .int .u8 v.k, .string v.S, .slice v.ql v.nl v.cl, .slice v.qh v.nh v.ch, .slice v.qz v.nz v.cz, .int .i64 du, .bool on, .bool false] enE.ty))
        clear hA hbl
        go_wp2_with (at_builtin; refine wpList_append_r enE (w0 := w) rfl (.tmp 25) (.tmp 33) rfl _ _ rfl HO1.out HBa.out wr.heap.size (⟨xk, v, du, on, false⟩ : En PV) 1 rfl HC.out HLn.out ?_; intro v' w3 hown1 hb3)
        go_roundw
        case rel => exact ⟨j + 1, by omega, by go_num, Lib.hid (by rw [HOx.out]; exact hown1), Lib.hid hb3⟩
        case measure => simp [intOf]; omega
    · have d1 : decide ((j : Int) < (nl : Int)) = false := decide_eq_false (by omega)
      have h0 := HOw.out
      rw [List.take_of_length_le (by rw [HN.out]; omega)] at h0
      have HLe := Lib.hid (List.length_filter_le (fun e : En PV => !e.past) P)
      rw [← HZ.out] at h0 HLe
      obtain ⟨q5, c5, hv, hr5, ha5⟩ := rowY_of h0
      subst hv
      obtain ⟨n5, hn5⟩ : ∃ n5, n5 = Z.length := ⟨_, rfl⟩
      rw [← hn5] at hr5 HLe ⊢
      have HN5 := Lib.hid hn5
      have HE5 := Lib.hid (yr_row HH.out HB.out hr5 ha5)
      have HR := Lib.hid (show ((P.length - Z.length : Nat) : Int) = (nl : Int) - (n5 : Int) by have := HN.out; have := HLe.out; have := HN5.out; omega)
      have hb5 : (n5 : Int) ≤ (nl : Int) := by have := HN.out; have := HLe.out; omega
      clear c0 c1 c2 hr5 ha5 h0 hn5
      obtain ⟨c0, c1, c2⟩ := HE5.out.1
      have f0 := HE5.out.2.1
      have hw : IntKind.i64.wrap ((nl : Int) - (n5 : Int)) = (nl : Int) - (n5 : Int) := by rw [IntKind.wrap_i64]; omega
      go_wp2_with fail
      go_ret
      exact ⟨ret_int HR.out.symm, _, _, _, HE5.out.2.2.1, HE5.out.2.2.2⟩

end Go.Proofs.Ytbcjgkedlapmhaa.RefY
