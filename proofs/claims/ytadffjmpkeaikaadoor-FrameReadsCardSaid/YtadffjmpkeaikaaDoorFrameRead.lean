/-
  What the laws of layer 6 do with a reader: all requests that it has ('read'); whether two rows of requests are the same ('same').
-/
import Derived.Test.YtadffjmpkeaikaaDoorFrameFit
import Derived.Deep.QuietTactic
import Derived.Lib.QuietBelow
namespace Go.Proofs.YtadffjmpkeaikaaDoor.FrameL
open Go.RowKit Kit BytesIn ReplyMath ReplyT NumMath NumL FrameMath FrameT FrameM
open Go.Sort (grow)
set_option linter.unusedVariables false
set_option maxRecDepth 100000

def vlen : Value → Nat
  | .slice _ n _ => n
  | _ => 0
theorem vlen_slice (q : Option Addr) (n c : Nat) : vlen (.slice q n c) = n := rfl
theorem rd_below {w w' : World} {F : Nat → Prop} {v : Value} {l : List UInt8} {bad : Bool} (h : Rd w F v l bad) (hb : Below w.heap.size w w') : Rd w' F v l bad := rd_keep h (fun k hk => hb.block k (rd_lt h k hk)) hb.size
theorem ownT_lt {F : Nat → Prop} {base : Nat} {w : World} {v : Value} {L : List (List (List UInt8))} (h : OwnT F base w v L) : ∀ k, v.ownBlock = some k → k < w.heap.size := by
  obtain ⟨-, vs, h, -⟩ := h
  exact fun k hk => (h.lt k hk).2
theorem one_cell (W : World) (u : Value) (t : TypeId) : ∀ j x, [u][j]? = some x → (W.alloc (.cells #[u] t)).cell? ((⟨W.heap.size, 0, none⟩ : Addr).add j) = some x := by
  intro j x hj
  match j, hj with
  | 0, hj => simp at hj; subst hj; rw [Addr.add_lit]; simp [World.cell?_alloc_mark]
  | j + 1, hj => simp at hj

/-- What 'read' answers of a reader. -/
def ReadP (F : Nat → Prop) (a : Addr) (R : List (List (List UInt8))) (t : List UInt8) (b : Bool) (w : World) (e : Ending) (w' : World) : Prop :=
  ∃ q c F', e = .returned (.tuple #[.slice q R.length c, .int .i64 (if b = true then 10 else 0)]) ∧ OwnT F' w.heap.size w' (.slice q R.length c) R ∧ Rd w' F' (.pointer (some a)) t b ∧ Turn F w w' F'

set_option maxHeartbeats 2000000 in
theorem read_any (w : World) (F : Nat → Prop) (a : Addr) (l : List UInt8) (bad : Bool) (R : List (List (List UInt8))) (t : List UInt8) (b : Bool) (N : Nat) (h : Rd w F (.pointer (some a)) l bad) (hr : ReadsB bad l R t b) (hN : R.length < N) (hN2 : N ≤ 65536) (hz : l.length ≤ 65536) (B : Nat) (hB : B ≤ w.heap.size) (hFB : ∀ k, F k → B ≤ k) (hgk : ∀ W, Below B w W → Gd W) :
    Calls Tryd.prog 19 #[.pointer (some a), .int .i64 (N : Int)] w (ReadP F a R t b w) := by
  have HB0 := Lib.hid (below1 w (.cells #[] 23))
  have HR0 := Lib.hid (rd_below h HB0.out)
  have HO0 := Lib.hid (OwnT.new (F := F) (base := w.heap.size) (w := w) (Nat.le_refl _) (rd_lt h))
  have HRd := Lib.hid hr
  have HFB := Lib.hid hFB
  have HGk := Lib.hid hgk
  clear h hr hFB hgk
  go_enter Tryd.func19, Tryd.ntmps19
  go_wp2_with fail
  go_loopw [6] (fun v wr => ∃ (Q R' : List (List (List UInt8))) (l' : List UInt8) (bad' : Bool) (F' : Nat → Prop) (q : Option Addr) (c m : Nat), v = .slice q m c ∧ Hid (m = Q.length) ∧ Hid (OwnT F' w.heap.size wr (.slice q m c) Q) ∧ Hid (R = Q ++ R') ∧ Hid (ReadsB bad' l' R' t b) ∧ Hid (Rd wr F' (.pointer (some a)) l' bad') ∧ Hid (l'.length ≤ 65536) ∧ Hid (Turn F w wr F')) (fun v _ => R.length - vlen v)
  case atStart => exact ⟨[], R, l, bad, F, _, _, 0, rfl, Lib.hid rfl, HO0, Lib.hid rfl, HRd, HR0, Lib.hid hz, Lib.hid (Turn.of_below HB0.out)⟩
  case round =>
    obtain ⟨Q, R', l', bad', F', q, c, m, rfl, HM, HO, HR, HRs, HRdr, HL, HT⟩ := hrel
    have hmN : m < N := by
      have h1 := congrArg List.length HR.out
      rw [List.length_append] at h1
      have := HM.out
      omega
    have d1 : decide ((m : Int) < (N : Int)) = true := decide_eq_true (by omega)
    have hGw := HGk.out wr (HT.out.below HFB.out hB)
    rcases firstB_of HRs.out with ⟨h1, h2⟩ | ⟨r, R'', l'', h1, h2, h3⟩
    · subst h1
      have C : Hid (Calls Tryd.prog 23 #[.pointer (some a)] wr (fun e w' => ∃ F2 u, e = .returned (.tuple #[u, .bool false, .int .i64 (if b = true then 10 else 0)]) ∧ AnsS wr.heap.size w' u [] ∧ OkS F2 w' u [] ∧ Rd w' F2 (.pointer (some a)) t b ∧ Turn F' wr w' F2)) := Lib.hid (next_rd wr F' a l' bad' none t b HRdr.out h2 HL.out hGw)
      obtain ⟨er, her⟩ : ∃ er : Int, er = if b = true then 10 else 0 := ⟨_, rfl⟩
      rw [← her] at C
      have HEr := Lib.hid her
      clear h2 hGw her
      go_wp2_with fail
      refine (show Calls _ _ _ _ _ from C.out).mono ?_
      rintro e w2 ⟨F2, u, rfl, hA, hO2, hRd2, hT2⟩
      have HX := Lib.hid (show OwnT F2 w.heap.size w2 (.slice q R.length c) R ∧ m = R.length by
        have h1 := HR.out
        rw [List.append_nil] at h1
        have h2 := HO.out.turn hT2
        rw [HM.out] at h2
        rw [h1]
        exact ⟨h2, HM.out⟩)
      clear hA hO2
      go_wp2_with fail
      go_ret2
      refine ⟨q, c, F2, ?_, HX.out.1, hRd2, HT.out.trans hT2⟩
      rw [← HEr.out, ← HX.out.2]
      rfl
    · have C : Hid (Calls Tryd.prog 23 #[.pointer (some a)] wr (fun e w' => ∃ F2 u, e = .returned (.tuple #[u, .bool true, .int .i64 0]) ∧ AnsS wr.heap.size w' u r ∧ OkS F2 w' u r ∧ Rd w' F2 (.pointer (some a)) l'' false ∧ Turn F' wr w' F2)) := Lib.hid (next_rd wr F' a l' bad' (some r) l'' false HRdr.out h2 HL.out hGw)
      have HL2 := Lib.hid (show l''.length ≤ 65536 from Nat.le_trans h2.len HL.out)
      have HR2 := Lib.hid (show R = (Q ++ [r]) ++ R'' by rw [HR.out, h1]; simp)
      have HRs2 := Lib.hid h3
      clear h1 h2 h3 hGw
      go_wp2_with fail
      refine (show Calls _ _ _ _ _ from C.out).mono ?_
      rintro e w2 ⟨F2, u, rfl, hA, hO2, hRd2, hT2⟩
      obtain ⟨qu, cu, hu, -⟩ := id hA
      obtain ⟨nu, hnu⟩ : ∃ nu, nu = r.length := ⟨_, rfl⟩
      rw [← hnu] at hu
      subst hu
      have hal := below1 w2 (.cells #[.slice qu nu cu] 23)
      have HTq := Lib.hid ((HT.out.trans hT2).trans (Turn.of_below (F := F2) hal))
      have HRq := Lib.hid (rd_below hRd2 hal)
      have HOq := Lib.hid ((HO.out.turn hT2).keep hal)
      have HFq := Lib.hid (rd_lt HRq.out)
      have HUq := Lib.hid (hO2.turn (Turn.of_below (F := F2) hal))
      have HAp := Lib.hid (show ∀ p n c', Value.slice qu nu cu = .slice (some p) n c' → 0 < n → (Value.slice q m c).ownBlock ≠ some p.block from fun p n c' hu _ he => by
        obtain ⟨qq, cc, hq, -, hge, -⟩ := hA
        rw [hu] at hq
        injection hq with e1 e2 e3
        have h4 := hge p e1.symm
        have h5 := ownT_lt HO.out _ he
        omega)
      have HOne := Lib.hid hO2.one
      have HSz := Lib.hid (show Q.length + 1 ≤ 1048576 by have := HM.out; omega)
      clear hA hO2 hRd2 hT2 hal hnu
      go_wp2_with (at_builtin; refine wpList_append_t (F0 := F) (w0 := w) rfl (.tmp 25) (.tmp 27) rfl (.slice q m c) Q rfl HOq.out HTq.out HFq.out ⟨w2.heap.size, 0, none⟩ 1 1 [.slice qu nu cu] [r] rfl rfl rfl (one_cell w2 (.slice qu nu cu) _) (fun j hj => (match j, hj with | 0, _ => ⟨.slice qu nu cu, rfl, HUq.out, HAp.out⟩ | j + 1, hj => absurd hj (by simp))) (fun x hx => by simp at hx; subst hx; exact HOne.out) HSz.out _ rfl ?_; intro v3 w3 hO3 hT3 hk3 hs3)
      have HR3 := Lib.hid (rd_keep HRq.out hk3 hs3)
      obtain ⟨q3, c3, rfl⟩ := hO3.form
      obtain ⟨m3, hm3⟩ : ∃ m3, m3 = (Q ++ [r]).length := ⟨_, rfl⟩
      rw [← hm3] at hO3 ⊢
      have hmm : m3 = m + 1 := by rw [hm3, List.length_append, ← HM.out]; rfl
      have hlt : m < R.length := by
        have h1 := congrArg List.length HR2.out
        rw [List.length_append, ← hm3] at h1
        omega
      have HO3 := Lib.hid hO3
      have HT3 := Lib.hid hT3
      have HM3 := Lib.hid hm3
      clear hk3 hs3 hO3 hT3 hm3
      go_roundw
      case rel => exact ⟨Q ++ [r], R'', l'', false, F2, q3, c3, m3, rfl, HM3, HO3, HR2, HRs2, HR3, HL2, HT3⟩
      case measure => simp only [vlen_slice]; omega

theorem Ts.keep {F : Nat → Prop} {w w' : World} {q : Option Addr} {L : List (List (List UInt8))} (h : Ts F w q L) (hb : Below w.heap.size w w') : Ts F w' q L := by
  intro h0
  obtain ⟨b, off, hp, hlt, hf, hc⟩ := h h0
  refine ⟨b, off, hp, Nat.lt_of_lt_of_le hlt hb.size, hf, fun j hj => ?_⟩
  obtain ⟨u, hu, hok⟩ := hc j hj
  exact ⟨u, by rw [hb.cell (p := ⟨b, off + j, none⟩) hlt]; exact hu, hok.turn (Turn.of_below hb)⟩
theorem take_eq_iff3 {X Y : List (List (List UInt8))} (k : Nat) (hX : k < X.length) (hY : k < Y.length) : X.take (k + 1) = Y.take (k + 1) ↔ X.take k = Y.take k ∧ X[k] = Y[k] := by
  rw [List.take_succ_eq_append_getElem hX, List.take_succ_eq_append_getElem hY]
  constructor
  · intro h
    have := List.append_inj h (by rw [List.length_take, List.length_take]; omega)
    exact ⟨this.1, by simpa using this.2⟩
  · rintro ⟨h1, h2⟩
    rw [h1, h2]
set_option maxHeartbeats 2000000 in
theorem same_any (F G : Nat → Prop) (q r : Option Addr) (X Y : List (List (List UInt8))) (n m c d : Nat) (w : World) (hX : X.length = n) (hY : Y.length = m) (h1 : Ts F w q X) (h2 : Ts G w r Y) (hn : n ≤ 9223372036854775806) (hz : ∀ x ∈ X, x.length ≤ 65536) :
    Calls Tryd.prog 21 #[.slice q n c, .slice r m d] w fun e w' => e = .returned (.bool (decide (X = Y))) ∧ Below w.heap.size w w' := by
  have HX := Lib.hid hX
  have HY := Lib.hid hY
  have H1 := Lib.hid h1
  have H2 := Lib.hid h2
  have HZ := Lib.hid hz
  clear h1 h2 hz
  by_cases hnm : n = m
  · subst hnm
    have t1 : ((n : Int) != (n : Int)) = false := bne_self_eq_false _
    clear hX hY
    go_enter Tryd.func21, Tryd.ntmps21
    go_wp2_with fail
    go_loopw [5] (fun i wr => ∃ k : Nat, k ≤ n ∧ i = .int .i64 k ∧ Below w.heap.size w wr ∧ Hid (X.take k = Y.take k)) (fun i _ => n - (intOf i).toNat)
    case atStart => exact ⟨0, Nat.zero_le _, rfl, Below.refl _ _, Lib.hid rfl⟩
    case round =>
      obtain ⟨k, hk, rfl, hb, HR⟩ := hrel
      by_cases hlt : k < n
      · have hkx : k < X.length := by rw [HX.out]; exact hlt
        have hky : k < Y.length := by rw [HY.out]; exact hlt
        obtain ⟨b, off, rfl, hbl, -, hc⟩ := (Ts.keep H1.out hb) (by omega)
        obtain ⟨b2, off2, rfl, hbl2, -, hc2⟩ := (Ts.keep H2.out hb) (by omega)
        obtain ⟨u, hu, qu, cu, rfl, hSu, -⟩ := hc k hkx
        obtain ⟨v, hv, qv, cv, rfl, hSv, -⟩ := hc2 k hky
        have hxl := HZ.out X[k] (List.getElem_mem hkx)
        have hi := take_eq_iff3 k hkx hky
        obtain ⟨x, hx⟩ : ∃ x, x = X[k] := ⟨_, rfl⟩
        obtain ⟨y, hy⟩ : ∃ y, y = Y[k] := ⟨_, rfl⟩
        rw [← hx] at hu hSu hxl hi
        rw [← hy] at hv hSv hi
        obtain ⟨nu, hnu⟩ : ∃ nu, nu = x.length := ⟨_, rfl⟩
        obtain ⟨nv, hnv⟩ : ∃ nv, nv = y.length := ⟨_, rfl⟩
        rw [← hnu] at hu
        rw [← hnv] at hv
        obtain ⟨B, hB⟩ : ∃ B, B = decide (x = y) := ⟨_, rfl⟩
        have CT := Lib.hid (fun dd os => Calls.regrown_of (show Calls Tryd.prog 14 #[.slice qu nu cu, .slice qv nv cv] (grow (redrawn wr dd) os) (fun e w' => e = .returned (.bool B) ∧ Below (grow (redrawn wr dd) os).heap.size (grow (redrawn wr dd) os) w') from by
          rw [hB]
          exact same_texts qu qv x y nu nv cu cv (grow (redrawn wr dd) os) hnu.symm hnv.symm (hSu.1.keep (below_regrown wr dd os)) (hSv.1.keep (below_regrown wr dd os)) (by omega)))
        have e1 := fun dd os => cell_regrown hu dd os
        have e2 := fun dd os => cell_regrown hv dd os
        cases B with
        | true =>
          have hxy : x = y := of_decide_eq_true hB.symm
          have HN := Lib.hid (hi.2 ⟨HR.out, hxy⟩)
          clear hi hxy hB hx hy hnu hnv hSu hSv hc hc2 hxl
          go_wp2_with fail
          refine wp_region_quiet_below (by kernel_rfl) (by kernel_rfl) ?_
          repeat (any_goals (go_big_quiet_step ((go_at_call 14; with_reducible exact CT.out _ _))))
          refine wpQuiet_nil ?_
          intro _ hw'
          obtain ⟨⟨dq, osq⟩, hw''⟩ := hw'
          subst hw''
          replace hb := hb.trans ((below_regrown _ dq osq).mono hb.size)
          clear e1 e2 CT hu hv
          go_wp2_with fail
          go_roundw
          case rel => exact ⟨k + 1, by omega, by go_num, hb, HN⟩
          case measure => simp [intOf]; omega
        | false =>
          have hxy : x ≠ y := of_decide_eq_false hB.symm
          have HF := Lib.hid (show decide (X = Y) = false from decide_eq_false (by rintro rfl; exact hxy (hx.trans hy.symm)))
          clear hi hxy hB hx hy hnu hnv hSu hSv hc hc2 hxl
          go_wp2_with fail
          refine wp_region_quiet_below (by kernel_rfl) (by kernel_rfl) ?_
          repeat (any_goals (go_big_quiet_step ((go_at_call 14; with_reducible exact CT.out _ _))))
          refine wpQuiet_nil ?_
          intro _ hw'
          obtain ⟨⟨dq, osq⟩, hw''⟩ := hw'
          subst hw''
          replace hb := hb.trans ((below_regrown _ dq osq).mono hb.size)
          clear e1 e2 CT hu hv
          go_wp2_with fail
          go_ret
          exact ⟨ret_bool HF.out.symm, hb⟩
      · have HF := Lib.hid (show decide (X = Y) = true from decide_eq_true (by
          have h := HR.out
          rwa [List.take_of_length_le (by rw [HX.out]; omega), List.take_of_length_le (by rw [HY.out]; omega)] at h))
        go_wp2_with fail
        go_ret
        exact ⟨ret_bool HF.out.symm, hb⟩
  · have t1 : ((n : Int) != (m : Int)) = true := by rw [bne_iff_ne]; omega
    have HF := Lib.hid (show decide (X = Y) = false from decide_eq_false (by rintro rfl; omega))
    clear hX hY
    go_enter Tryd.func21, Tryd.ntmps21
    go_wp2_with fail
    go_ret
    exact ⟨ret_bool HF.out.symm, Below.refl _ _⟩

end Go.Proofs.YtadffjmpkeaikaaDoor.FrameL
