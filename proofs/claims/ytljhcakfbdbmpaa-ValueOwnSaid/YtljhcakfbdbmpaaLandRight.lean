/-
  The landed code of layer 9: whether a value may be.
-/
import Derived.Test.YtljhcakfbdbmpaaLandStray
import Derived.Test.YtljhcakfbdbmpaaLandRise2
import Derived.Test.YtljhcakfbdbmpaaLandUnlike
namespace Go.Proofs.Ytljhcakfbdbmpaa.ValM
open Go.RowKit Kit StrT RowG BOrd ValT RefV
set_option linter.unusedVariables false
set_option maxRecDepth 100000

theorem rk_stray {d : V} (hs : straysB d = true) : rightB d = false := by rw [right_strays, hs]; rfl
theorem rk01 {d : V} (hs : straysB d = false) (hk : d.kind = 0 ∨ d.kind = 1) : rightB d = true := by rw [right_strays, hs, if_pos hk]; rfl
theorem rk2 {d : V} (hs : straysB d = false) (hk : d.kind = 2) : rightB d = !decide (d.l = []) := by rw [right_strays, hs, if_neg (by omega), if_pos hk]; simp
theorem rk3 {d : V} (hs : straysB d = false) (hk : d.kind = 3) : rightB d = (!decide (d.h = []) && chainB cmpP d.h) := by rw [right_strays, hs, if_neg (by omega), if_neg (by omega), if_pos hk, chain_P]; simp
theorem rk4 {d : V} (hs : straysB d = false) (hk : d.kind = 4) : rightB d = (!decide (d.l = []) && chainB cmpS d.l) := by rw [right_strays, hs, if_neg (by omega), if_neg (by omega), if_neg (by omega), if_pos hk, chain_S]; simp
theorem rk5 {d : V} (hs : straysB d = false) (hk : d.kind = 5) : rightB d = (!decide (d.z = []) && (chainB cmpM d.z && chainB cmpS (sortedT (mnames d.z)))) := by rw [right_strays, hs, if_neg (by omega), if_neg (by omega), if_neg (by omega), if_neg (by omega), if_pos hk, chain_M]; simp
theorem rk6 {d : V} (hs : straysB d = false) (hk : 6 ≤ d.kind) : rightB d = false := by rw [right_strays, hs, if_neg (by omega), if_neg (by omega), if_neg (by omega), if_neg (by omega), if_neg (by omega)]; simp
theorem nil_len {α : Type} {l : List α} {n : Nat} (h : l.length = n) : decide (l = []) = decide (n = 0) := (len_nil h).symm

theorem kind_seven (d : V) {k : Int} (h : k = (d.kind : Int)) : (k = 0 ∧ d.kind = 0) ∨ (k = 1 ∧ d.kind = 1) ∨ (k = 2 ∧ d.kind = 2) ∨ (k = 3 ∧ d.kind = 3) ∨ (k = 4 ∧ d.kind = 4) ∨ (k = 5 ∧ d.kind = 5) ∨ ((k == 0) = false ∧ (k == 1) = false ∧ (k == 2) = false ∧ (k == 3) = false ∧ (k == 4) = false ∧ (k == 5) = false ∧ 6 ≤ d.kind) := by
  simp only [beq_eq_false_iff_ne]
  omega
set_option maxHeartbeats 8000000 in
theorem right_any (k : Int) (S : ByteArray) (ql : Option Addr) (nl cl : Nat) (qh : Option Addr) (nh ch : Nat) (qz : Option Addr) (nz cz : Nat) (d : V) (w : World) (H : VIn w k S ql nl cl qh nh ch qz nz cz d) :
    Calls Try.prog 9 #[.agg #[.int .u8 k, .string S, .slice ql nl cl, .slice qh nh ch, .slice qz nz cz]] w fun e w' => e = .returned (.bool (rightB d)) ∧ Below w.heap.size w w' := by
  have HC := Lib.hid (VCells.new w (.int .u8 k) (.string S) (.slice ql nl cl) (.slice qh nh ch) (.slice qz nz cz) w.heap.size rfl)
  have HB := Lib.hid (show Below w.heap.size w (w.alloc (.cells #[.int .u8 k, .string S, .slice ql nl cl, .slice qh nh ch, .slice qz nz cz] 26)) from (Below.refl _ _).alloc (Nat.le_refl _) _)
  have HV := Lib.hid (H.keep HB.out)
  have HI := Lib.hid val_size
  have CT := Lib.hid (strays_any k S ql nl cl qh nh ch qz nz cz d _ HV.out)
  have hfl := H.fl
  have hfh := H.fh
  have hfz := H.fz
  have hw := kind_seven d H.ek
  clear H
  cases hs : straysB d with
  | true =>
    have HF := Lib.hid (rk_stray hs)
    rw [hs] at CT
    clear hs hw
    go_enter Try.func9, Try.ntmps9
    go_wp2_with (first
      | (with_reducible refine wpList_load_row rfl 26 (.tmp 1) rfl w.heap.size rfl 26 #[.int .u8 k, .string S, .slice ql nl cl, .slice qh nh ch, .slice qz nz cz] (0, 0) _ HC.out.hp Try.underlying26 rfl HI.out ?_)
      | (go_at_call 19; with_reducible refine CT.out.mono ?_; rintro e w2 ⟨rfl, hb2⟩; have HB2 := Lib.hid (HB.out.trans (hb2.mono HB.out.size)); clear hb2))
    go_ret
    exact ⟨ret_bool HF.out.symm, HB2.out⟩
  | false =>
    rw [hs] at CT
    have HS := Lib.hid hs
    clear hs
    rcases hw with ⟨rfl, hk⟩ | ⟨rfl, hk⟩ | ⟨rfl, hk⟩ | ⟨rfl, hk⟩ | ⟨rfl, hk⟩ | ⟨rfl, hk⟩ | ⟨x0, x1, x2, x3, x4, x5, hk⟩
    · have HF := Lib.hid (rk01 HS.out (Or.inl hk))
      clear hk
      go_enter Try.func9, Try.ntmps9
      go_wp2_with (first
        | (with_reducible refine wpList_load_row rfl 26 (.tmp 1) rfl w.heap.size rfl 26 #[.int .u8 0, .string S, .slice ql nl cl, .slice qh nh ch, .slice qz nz cz] (0, 0) _ HC.out.hp Try.underlying26 rfl HI.out ?_)
        | (go_at_call 19; with_reducible refine CT.out.mono ?_; rintro e w2 ⟨rfl, hb2⟩; have HB2 := Lib.hid (HB.out.trans (hb2.mono HB.out.size)); have HA := Lib.hid (HC.out.keep hb2); have HV2 := Lib.hid (HV.out.keep hb2); clear hb2; obtain ⟨-, -, c0, c1, c2, c3, c4⟩ := HA.out))
      go_ret
      exact ⟨ret_bool (HF.out.symm), HB2.out⟩
    · have HF := Lib.hid (rk01 HS.out (Or.inr hk))
      clear hk
      go_enter Try.func9, Try.ntmps9
      go_wp2_with (first
        | (with_reducible refine wpList_load_row rfl 26 (.tmp 1) rfl w.heap.size rfl 26 #[.int .u8 1, .string S, .slice ql nl cl, .slice qh nh ch, .slice qz nz cz] (0, 0) _ HC.out.hp Try.underlying26 rfl HI.out ?_)
        | (go_at_call 19; with_reducible refine CT.out.mono ?_; rintro e w2 ⟨rfl, hb2⟩; have HB2 := Lib.hid (HB.out.trans (hb2.mono HB.out.size)); have HA := Lib.hid (HC.out.keep hb2); have HV2 := Lib.hid (HV.out.keep hb2); clear hb2; obtain ⟨-, -, c0, c1, c2, c3, c4⟩ := HA.out))
      go_ret
      exact ⟨ret_bool (HF.out.symm), HB2.out⟩
    · have HF := Lib.hid (rk2 HS.out hk)
      clear hk
      have e0 := nil_len HV.out.ll
      rcases Nat.eq_zero_or_pos nl with h0 | h0
      · subst h0
        go_enter Try.func9, Try.ntmps9
        go_wp2_with (first
          | (with_reducible refine wpList_load_row rfl 26 (.tmp 1) rfl w.heap.size rfl 26 #[.int .u8 2, .string S, .slice ql nl cl, .slice qh nh ch, .slice qz nz cz] (0, 0) _ HC.out.hp Try.underlying26 rfl HI.out ?_)
          | (go_at_call 19; with_reducible refine CT.out.mono ?_; rintro e w2 ⟨rfl, hb2⟩; have HB2 := Lib.hid (HB.out.trans (hb2.mono HB.out.size)); have HA := Lib.hid (HC.out.keep hb2); have HV2 := Lib.hid (HV.out.keep hb2); clear hb2; obtain ⟨-, -, c0, c1, c2, c3, c4⟩ := HA.out))
        go_ret
        exact ⟨ret_bool (by rw [HF.out, e0]; rfl), HB2.out⟩
      · have r0 : decide (0 < nl) = true := decide_eq_true h0
        rw [show decide (nl = 0) = false from decide_eq_false (by omega)] at e0
        go_enter Try.func9, Try.ntmps9
        go_wp2_with (first
          | (with_reducible refine wpList_load_row rfl 26 (.tmp 1) rfl w.heap.size rfl 26 #[.int .u8 2, .string S, .slice ql nl cl, .slice qh nh ch, .slice qz nz cz] (0, 0) _ HC.out.hp Try.underlying26 rfl HI.out ?_)
          | (go_at_call 19; with_reducible refine CT.out.mono ?_; rintro e w2 ⟨rfl, hb2⟩; have HB2 := Lib.hid (HB.out.trans (hb2.mono HB.out.size)); have HA := Lib.hid (HC.out.keep hb2); have HV2 := Lib.hid (HV.out.keep hb2); clear hb2; obtain ⟨-, -, c0, c1, c2, c3, c4⟩ := HA.out))
        go_ret
        exact ⟨ret_bool (by rw [HF.out, e0]; rfl), HB2.out⟩
    · have HF := Lib.hid (rk3 HS.out hk)
      clear hk
      have e0 := nil_len HV.out.lh
      rcases Nat.eq_zero_or_pos nh with h0 | h0
      · subst h0
        go_enter Try.func9, Try.ntmps9
        go_wp2_with (first
          | (with_reducible refine wpList_load_row rfl 26 (.tmp 1) rfl w.heap.size rfl 26 #[.int .u8 3, .string S, .slice ql nl cl, .slice qh nh ch, .slice qz nz cz] (0, 0) _ HC.out.hp Try.underlying26 rfl HI.out ?_)
          | (go_at_call 19; with_reducible refine CT.out.mono ?_; rintro e w2 ⟨rfl, hb2⟩; have HB2 := Lib.hid (HB.out.trans (hb2.mono HB.out.size)); have HA := Lib.hid (HC.out.keep hb2); have HV2 := Lib.hid (HV.out.keep hb2); clear hb2; obtain ⟨-, -, c0, c1, c2, c3, c4⟩ := HA.out))
        go_ret
        exact ⟨ret_bool (by rw [HF.out, e0]; rfl), HB2.out⟩
      · have r0 : decide (0 < nh) = true := decide_eq_true h0
        rw [show decide (nh = 0) = false from decide_eq_false (by omega)] at e0
        go_enter Try.func9, Try.ntmps9
        go_wp2_with (first
          | (with_reducible refine wpList_load_row rfl 26 (.tmp 1) rfl w.heap.size rfl 26 #[.int .u8 3, .string S, .slice ql nl cl, .slice qh nh ch, .slice qz nz cz] (0, 0) _ HC.out.hp Try.underlying26 rfl HI.out ?_)
          | (go_at_call 19; with_reducible refine CT.out.mono ?_; rintro e w2 ⟨rfl, hb2⟩; have HB2 := Lib.hid (HB.out.trans (hb2.mono HB.out.size)); have HA := Lib.hid (HC.out.keep hb2); have HV2 := Lib.hid (HV.out.keep hb2); clear hb2; obtain ⟨-, -, c0, c1, c2, c3, c4⟩ := HA.out)
          | (go_at_call 20; with_reducible refine (rising_p qh d.h nh ch w2 HV2.out.lh HV2.out.rh hfh).mono ?_; rintro e w3 ⟨rfl, hb3⟩; have HB3 := Lib.hid (HB2.out.trans (hb3.mono HB2.out.size)); clear hb3))
        go_ret
        exact ⟨ret_bool (by rw [HF.out, e0]; rfl), HB3.out⟩
    · have HF := Lib.hid (rk4 HS.out hk)
      clear hk
      have e0 := nil_len HV.out.ll
      rcases Nat.eq_zero_or_pos nl with h0 | h0
      · subst h0
        go_enter Try.func9, Try.ntmps9
        go_wp2_with (first
          | (with_reducible refine wpList_load_row rfl 26 (.tmp 1) rfl w.heap.size rfl 26 #[.int .u8 4, .string S, .slice ql nl cl, .slice qh nh ch, .slice qz nz cz] (0, 0) _ HC.out.hp Try.underlying26 rfl HI.out ?_)
          | (go_at_call 19; with_reducible refine CT.out.mono ?_; rintro e w2 ⟨rfl, hb2⟩; have HB2 := Lib.hid (HB.out.trans (hb2.mono HB.out.size)); have HA := Lib.hid (HC.out.keep hb2); have HV2 := Lib.hid (HV.out.keep hb2); clear hb2; obtain ⟨-, -, c0, c1, c2, c3, c4⟩ := HA.out))
        go_ret
        exact ⟨ret_bool (by rw [HF.out, e0]; rfl), HB2.out⟩
      · have r0 : decide (0 < nl) = true := decide_eq_true h0
        rw [show decide (nl = 0) = false from decide_eq_false (by omega)] at e0
        go_enter Try.func9, Try.ntmps9
        go_wp2_with (first
          | (with_reducible refine wpList_load_row rfl 26 (.tmp 1) rfl w.heap.size rfl 26 #[.int .u8 4, .string S, .slice ql nl cl, .slice qh nh ch, .slice qz nz cz] (0, 0) _ HC.out.hp Try.underlying26 rfl HI.out ?_)
          | (go_at_call 19; with_reducible refine CT.out.mono ?_; rintro e w2 ⟨rfl, hb2⟩; have HB2 := Lib.hid (HB.out.trans (hb2.mono HB.out.size)); have HA := Lib.hid (HC.out.keep hb2); have HV2 := Lib.hid (HV.out.keep hb2); clear hb2; obtain ⟨-, -, c0, c1, c2, c3, c4⟩ := HA.out)
          | (go_at_call 22; with_reducible refine (rising_s ql d.l nl cl w2 HV2.out.ll (rs_ss.1 HV2.out.rl) hfl).mono ?_; rintro e w3 ⟨rfl, hb3⟩; have HB3 := Lib.hid (HB2.out.trans (hb3.mono HB2.out.size)); clear hb3))
        go_ret
        exact ⟨ret_bool (by rw [HF.out, e0]; rfl), HB3.out⟩
    · have HF := Lib.hid (rk5 HS.out hk)
      clear hk
      have e0 := nil_len HV.out.lz
      rcases Nat.eq_zero_or_pos nz with h0 | h0
      · subst h0
        go_enter Try.func9, Try.ntmps9
        go_wp2_with (first
          | (with_reducible refine wpList_load_row rfl 26 (.tmp 1) rfl w.heap.size rfl 26 #[.int .u8 5, .string S, .slice ql nl cl, .slice qh nh ch, .slice qz nz cz] (0, 0) _ HC.out.hp Try.underlying26 rfl HI.out ?_)
          | (go_at_call 19; with_reducible refine CT.out.mono ?_; rintro e w2 ⟨rfl, hb2⟩; have HB2 := Lib.hid (HB.out.trans (hb2.mono HB.out.size)); have HA := Lib.hid (HC.out.keep hb2); have HV2 := Lib.hid (HV.out.keep hb2); clear hb2; obtain ⟨-, -, c0, c1, c2, c3, c4⟩ := HA.out))
        go_ret
        exact ⟨ret_bool (by rw [HF.out, e0]; rfl), HB2.out⟩
      · have r0 : decide (0 < nz) = true := decide_eq_true h0
        rw [show decide (nz = 0) = false from decide_eq_false (by omega)] at e0
        obtain ⟨bm, hbm⟩ : ∃ b, b = chainB cmpM d.z := ⟨_, rfl⟩
        rw [← hbm] at HF
        have HM := Lib.hid hbm
        clear hbm
        cases bm with
        | false =>
          go_enter Try.func9, Try.ntmps9
          go_wp2_with (first
            | (with_reducible refine wpList_load_row rfl 26 (.tmp 1) rfl w.heap.size rfl 26 #[.int .u8 5, .string S, .slice ql nl cl, .slice qh nh ch, .slice qz nz cz] (0, 0) _ HC.out.hp Try.underlying26 rfl HI.out ?_)
            | (go_at_call 19; with_reducible refine CT.out.mono ?_; rintro e w2 ⟨rfl, hb2⟩; have HB2 := Lib.hid (HB.out.trans (hb2.mono HB.out.size)); have HA := Lib.hid (HC.out.keep hb2); have HV2 := Lib.hid (HV.out.keep hb2); clear hb2; obtain ⟨-, -, c0, c1, c2, c3, c4⟩ := HA.out)
            | (go_at_call 24; with_reducible refine ((HM.out ▸ rising_m qz d.z nz cz w2 HV2.out.lz HV2.out.rz hfz : Calls Try.prog 24 #[.slice qz nz cz, .func (.func 25) #[] #[]] w2 fun e w' => e = .returned (.bool false) ∧ Below w2.heap.size w2 w')).mono ?_; rintro e w3 ⟨rfl, hb3⟩; have HB3 := Lib.hid (HB2.out.trans (hb3.mono HB2.out.size)); clear hb3))
          go_ret
          exact ⟨ret_bool (by rw [HF.out, e0]; rfl), HB3.out⟩
        | true =>
          go_enter Try.func9, Try.ntmps9
          go_wp2_with (first
            | (with_reducible refine wpList_load_row rfl 26 (.tmp 1) rfl w.heap.size rfl 26 #[.int .u8 5, .string S, .slice ql nl cl, .slice qh nh ch, .slice qz nz cz] (0, 0) _ HC.out.hp Try.underlying26 rfl HI.out ?_)
            | (go_at_call 19; with_reducible refine CT.out.mono ?_; rintro e w2 ⟨rfl, hb2⟩; have HB2 := Lib.hid (HB.out.trans (hb2.mono HB.out.size)); have HA := Lib.hid (HC.out.keep hb2); have HV2 := Lib.hid (HV.out.keep hb2); clear hb2; obtain ⟨-, -, c0, c1, c2, c3, c4⟩ := HA.out)
            | (go_at_call 24; with_reducible refine ((HM.out ▸ rising_m qz d.z nz cz w2 HV2.out.lz HV2.out.rz hfz : Calls Try.prog 24 #[.slice qz nz cz, .func (.func 25) #[] #[]] w2 fun e w' => e = .returned (.bool true) ∧ Below w2.heap.size w2 w')).mono ?_; rintro e w3 ⟨rfl, hb3⟩; have HB3 := Lib.hid (HB2.out.trans (hb3.mono HB2.out.size)); have HA3 := Lib.hid (HA.out.keep hb3); have HV3 := Lib.hid (HV2.out.keep hb3); clear c0 c1 c2 c3 c4; obtain ⟨-, -, c0, c1, c2, c3, c4⟩ := HA3.out; clear hb3)
            | (go_at_call 26; with_reducible refine (unlike_any qz d.z nz cz w3 HV3.out.lz HV3.out.rz hfz).mono ?_; rintro e w4 ⟨rfl, hb4⟩; have HB4 := Lib.hid (HB3.out.trans (hb4.mono HB3.out.size)); clear hb4))
          go_ret
          exact ⟨ret_bool (by rw [HF.out, e0]; rfl), HB4.out⟩
    · have HF := Lib.hid (rk6 HS.out hk)
      clear hk
      go_enter Try.func9, Try.ntmps9
      go_wp2_with (first
        | (with_reducible refine wpList_load_row rfl 26 (.tmp 1) rfl w.heap.size rfl 26 #[.int .u8 k, .string S, .slice ql nl cl, .slice qh nh ch, .slice qz nz cz] (0, 0) _ HC.out.hp Try.underlying26 rfl HI.out ?_)
        | (go_at_call 19; with_reducible refine CT.out.mono ?_; rintro e w2 ⟨rfl, hb2⟩; have HB2 := Lib.hid (HB.out.trans (hb2.mono HB.out.size)); have HA := Lib.hid (HC.out.keep hb2); have HV2 := Lib.hid (HV.out.keep hb2); clear hb2; obtain ⟨-, -, c0, c1, c2, c3, c4⟩ := HA.out))
      go_ret
      exact ⟨ret_bool (HF.out.symm), HB2.out⟩

end Go.Proofs.Ytljhcakfbdbmpaa.ValM
