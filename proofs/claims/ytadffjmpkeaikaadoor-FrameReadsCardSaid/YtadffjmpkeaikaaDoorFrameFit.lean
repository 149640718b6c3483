/-
  What the laws of layer 6 share: words that fit, whether two rows of texts are the same, how the document puts words.
-/
import Derived.Test.YtadffjmpkeaikaaDoorFrameLaw
import Derived.Lib.Split
import Derived.Deep.DeepCutAuto
namespace Go.Proofs.YtadffjmpkeaikaaDoor.FrameL
open Go.RowKit Kit BytesIn ReplyMath ReplyT NumMath NumL FrameMath FrameT FrameM
set_option linter.unusedVariables false
set_option maxRecDepth 100000

/-- What 'fit' leaves of texts, before it is asked whether there are any. -/
def cutW (L : List (List UInt8)) (k : Nat) : List (List UInt8) := (L.take k).map (·.take 60)
def fitL (L : List (List UInt8)) : List (List UInt8) := if cutW L 32 = [] then [[]] else cutW L 32
theorem cutW_succ (L : List (List UInt8)) (k : Nat) (h : k < L.length) : cutW L (k + 1) = cutW L k ++ [L[k].take 60] := by
  unfold cutW
  rw [List.take_succ_eq_append_getElem h, List.map_append]
  rfl
theorem cutW_all (L : List (List UInt8)) (k : Nat) (h : k = 32 ∨ (k ≤ 32 ∧ L.length ≤ k)) : cutW L k = cutW L 32 := by
  unfold cutW
  rcases h with rfl | ⟨h1, h2⟩
  · rfl
  · rw [List.take_of_length_le h2, List.take_of_length_le (by omega)]
theorem fitL_len (L : List (List UInt8)) : 1 ≤ (fitL L).length ∧ (fitL L).length ≤ 32 := by
  unfold fitL
  split
  · simp
  · rename_i h
    refine ⟨?_, ?_⟩
    · rcases Nat.eq_zero_or_pos (cutW L 32).length with h' | h'
      · exact absurd (List.eq_nil_of_length_eq_zero h') h
      · exact h'
    · simp [cutW]; omega
theorem fitL_small (L : List (List UInt8)) : ∀ s ∈ fitL L, s.length ≤ 60 := by
  intro s hs
  unfold fitL at hs
  split at hs
  · simp at hs; subst hs; simp
  · obtain ⟨t, -, rfl⟩ := List.mem_map.1 hs
    rw [List.length_take]
    omega

set_option maxHeartbeats 2000000 in
theorem fit_any (q : Option Addr) (L : List (List UInt8)) (n c : Nat) (w : World) (hL : L.length = n) (h : Ss w q L) (hz : ∀ s ∈ L, s.length ≤ 140737488351232) (hn : n ≤ 9223372036854775807) :
    Calls Tryd.prog 11 #[.slice q n c] w fun e w' => ∃ v, e = .returned v ∧ AnsS w.heap.size w' v (fitL L) ∧ Below w.heap.size w w' := by
  have HLn := Lib.hid hL
  have HS := Lib.hid h
  have HZ := Lib.hid hz
  have HO0 := Lib.hid (OwnS.new w)
  clear h hL hz
  go_enter Tryd.func11, Tryd.ntmps11
  go_wp2_with fail
  go_loopw [3, 4] (fun v i wr => ∃ k : Nat, k ≤ n ∧ k ≤ 32 ∧ i = .int .i64 k ∧ Below w.heap.size w wr ∧ Hid (OwnS w.heap.size wr v (cutW L k))) (fun _ i _ => n - (intOf i).toNat)
  case atStart => exact ⟨0, Nat.zero_le _, by omega, rfl, below1 _ _, HO0⟩
  case round =>
    obtain ⟨k, hk, hk32, rfl, hb, HO⟩ := hrel
    have hbs := hb.size
    by_cases hgo : k < n ∧ k < 32
    · obtain ⟨hlt, h32⟩ := hgo
      have d1 : decide ((k : Int) < (n : Int)) = true := decide_eq_true (by omega)
      have d2 : decide ((k : Int) < 32) = true := decide_eq_true (by omega)
      have hkl : k < L.length := by rw [HLn.out]; exact hlt
      obtain ⟨b, off, rfl, hbl, hc⟩ := (HS.out.keep hb) (by omega)
      have hu := hc k hkl
      obtain ⟨S, hS⟩ : ∃ S : ByteArray, S = ⟨L[k].toArray⟩ := ⟨_, rfl⟩
      have hSz : S.size ≤ 140737488351232 := by rw [hS, size_bytes]; exact HZ.out L[k] (List.getElem_mem hkl)
      have HSN := Lib.hid (show cutW L (k + 1) = cutW L k ++ [S.data.toList.take 60] by rw [cutW_succ L k hkl, hS])
      rw [← hS] at hu
      clear hS hc
      have HKl := Lib.hid (show (cutW L k).length ≤ 1048576 by unfold cutW; rw [List.length_map, List.length_take]; omega)
      obtain ⟨Y, hY⟩ : ∃ Y, Y = cutW L k := ⟨_, rfl⟩
      rw [← hY] at HSN HO HKl
      clear hY
      by_cases h60 : 60 < S.size
      · have d3 : (60 : Int) < (S.size : Int) := by omega
        obtain ⟨T, hT⟩ : ∃ T, T = S.extract 0 60 := ⟨_, rfl⟩
        have s1 : ∀ W, (Instr.slice 9 (.string S) none (some (.int .i64 60)) none).run Tryd.prog W = .ok (.string T) W := fun W => by
          have h := run_slice_string_h (P := Tryd.prog) W 9 S Tryd.underlying9 .i64 60 (by omega) (by omega)
          rw [show (60 : Int).toNat = 60 from rfl, ← hT] at h
          exact h
        have HT := Lib.hid (show T.data.toList = S.data.toList.take 60 by rw [hT, Lib.extract_from_zero])
        clear hT
        have HO1 := Lib.hid (HO.out.keep (below1 wr (.cells #[.string T] 9)))
        have HC := Lib.hid (show (wr.alloc (.cells #[.string T] 9)).cell? ⟨wr.heap.size, 0, none⟩ = some (.string T) by simp [World.cell?_alloc_mark])
        go_wp2_with (at_builtin; refine wpList_append_s (w0 := w) rfl (.tmp 26) (.tmp 28) rfl u3 Y rfl HO1.out (hb.alloc hbs _) wr.heap.size T _ 1 rfl HT.out HC.out HKl.out ?_; intro v' w2 hown1 hb2)
        go_roundw
        case rel => exact ⟨k + 1, by omega, by omega, by go_num, hb2, by rw [HSN.out]; exact Lib.hid hown1⟩
        case measure => simp [intOf]; omega
      · have d3 : ¬ ((60 : Int) < (S.size : Int)) := by omega
        have HT := Lib.hid (show S.data.toList = S.data.toList.take 60 by rw [List.take_of_length_le (by rw [str_len]; omega)])
        have HO1 := Lib.hid (HO.out.keep (below1 wr (.cells #[.string S] 9)))
        have HC := Lib.hid (show (wr.alloc (.cells #[.string S] 9)).cell? ⟨wr.heap.size, 0, none⟩ = some (.string S) by simp [World.cell?_alloc_mark])
        go_wp2_with (at_builtin; refine wpList_append_s (w0 := w) rfl (.tmp 26) (.tmp 28) rfl u3 Y rfl HO1.out (hb.alloc hbs _) wr.heap.size S _ 1 rfl HT.out HC.out HKl.out ?_; intro v' w2 hown1 hb2)
        go_roundw
        case rel => exact ⟨k + 1, by omega, by omega, by go_num, hb2, by rw [HSN.out]; exact Lib.hid hown1⟩
        case measure => simp [intOf]; omega
    · have HF := Lib.hid (show OwnS w.heap.size wr u3 (cutW L 32) by
        have h1 := HO.out
        rw [cutW_all L k (by rw [HLn.out]; omega)] at h1
        exact h1)
      obtain ⟨U, hU⟩ : ∃ U, U = cutW L 32 := ⟨_, rfl⟩
      have hfit : fitL L = if U = [] then [[]] else U := by rw [hU]; rfl
      rw [← hU] at HF
      have HA := Lib.hid (ownS_ans HF.out)
      obtain ⟨qq, cq, hv, -⟩ := HF.out.ss
      subst hv
      have hend : (k < n → (n : Int) ≤ 0 ∨ 32 ≤ k) := fun h => Or.inr (by omega)
      have tst : (n ≤ k) ∨ (k < n ∧ 32 ≤ k) := by omega
      clear HO hU hend
      by_cases hnil : U = []
      · subst hnil
        have HX := Lib.hid (show fitL L = [[]] by rw [hfit, if_pos rfl])
        clear hfit HA HF hgo
        rcases tst with g | ⟨g, g2⟩
        · have d1 : decide ((k : Int) < (n : Int)) = false := decide_eq_false (by omega)
          go_wp2_with fail
          go_ret
          refine ⟨_, rfl, ?_, hb.alloc hbs _⟩
          rw [HX.out]
          refine ⟨_, 1, rfl, fun _ => ⟨wr.heap.size, 0, rfl, by simp, fun j hj => ?_⟩, fun a ha => ?_, Nat.le_refl _, by decide, fun h => by cases h⟩
          · match j, hj with
            | 0, _ => simp [World.cell?_alloc_mark]
            | j + 1, hj => simp at hj
          · injection ha with ha
            subst ha
            exact hbs
        · have d1 : decide ((k : Int) < (n : Int)) = true := decide_eq_true (by omega)
          have d2 : decide ((k : Int) < 32) = false := decide_eq_false (by omega)
          go_wp2_with fail
          go_ret
          refine ⟨_, rfl, ?_, hb.alloc hbs _⟩
          rw [HX.out]
          refine ⟨_, 1, rfl, fun _ => ⟨wr.heap.size, 0, rfl, by simp, fun j hj => ?_⟩, fun a ha => ?_, Nat.le_refl _, by decide, fun h => by cases h⟩
          · match j, hj with
            | 0, _ => simp [World.cell?_alloc_mark]
            | j + 1, hj => simp at hj
          · injection ha with ha
            subst ha
            exact hbs
      · have HX := Lib.hid (show fitL L = U by rw [hfit, if_neg hnil])
        obtain ⟨m, hm⟩ : ∃ m, m = U.length := ⟨_, rfl⟩
        have hm0 : ((m : Int) == 0) = false := by
          rw [beq_eq_false_iff_ne, hm]
          intro e
          exact hnil (List.eq_nil_of_length_eq_zero (by omega))
        rw [← hm] at HA ⊢
        clear hfit HF hgo hnil hm
        rcases tst with g | ⟨g, g2⟩
        · have d1 : decide ((k : Int) < (n : Int)) = false := decide_eq_false (by omega)
          go_wp2_with fail
          go_ret
          exact ⟨_, rfl, by rw [HX.out]; exact HA.out, hb⟩
        · have d1 : decide ((k : Int) < (n : Int)) = true := decide_eq_true (by omega)
          have d2 : decide ((k : Int) < 32) = false := decide_eq_false (by omega)
          go_wp2_with fail
          go_ret
          exact ⟨_, rfl, by rw [HX.out]; exact HA.out, hb⟩

/-- The document's own 'are these texts the same'. -/
theorem below_drewN {B : Nat} {a w : World} (h : Below B a w) (q : Nat) : Below B a (w.drewN q) := h.trans ⟨rfl, rfl, rfl, Nat.le_refl _, fun _ _ => rfl⟩
theorem str_eq (a b : List UInt8) : ((⟨a.toArray⟩ : ByteArray).toList != (⟨b.toArray⟩ : ByteArray).toList) = decide (a ≠ b) := by
  rw [ByteArray.toList_eq, ByteArray.toList_eq, Bool.eq_iff_iff, bne_iff_ne, decide_eq_true_eq]
theorem take_eq_iff {X Y : List (List UInt8)} (k : Nat) (hX : k < X.length) (hY : k < Y.length) : X.take (k + 1) = Y.take (k + 1) ↔ X.take k = Y.take k ∧ X[k] = Y[k] := by
  rw [List.take_succ_eq_append_getElem hX, List.take_succ_eq_append_getElem hY]
  constructor
  · intro h
    have := List.append_inj h (by rw [List.length_take, List.length_take]; omega)
    exact ⟨this.1, by simpa using this.2⟩
  · rintro ⟨h1, h2⟩
    rw [h1, h2]
set_option maxHeartbeats 2000000 in
theorem same_texts (q r : Option Addr) (X Y : List (List UInt8)) (n m c d : Nat) (w : World) (hX : X.length = n) (hY : Y.length = m) (h1 : Ss w q X) (h2 : Ss w r Y) (hn : n ≤ 9223372036854775806) :
    Calls Tryd.prog 14 #[.slice q n c, .slice r m d] w fun e w' => e = .returned (.bool (decide (X = Y))) ∧ Below w.heap.size w w' := by
  have HX := Lib.hid hX
  have HY := Lib.hid hY
  have H1 := Lib.hid h1
  have H2 := Lib.hid h2
  clear h1 h2
  by_cases hnm : n = m
  · subst hnm
    have t1 : ((n : Int) != (n : Int)) = false := bne_self_eq_false _
    clear hX hY
    go_enter Tryd.func14, Tryd.ntmps14
    go_wp2_with fail
    go_loopw [5] (fun i wr => ∃ k : Nat, k ≤ n ∧ i = .int .i64 k ∧ Below w.heap.size w wr ∧ Hid (X.take k = Y.take k)) (fun i _ => n - (intOf i).toNat)
    case atStart => exact ⟨0, Nat.zero_le _, rfl, Below.refl _ _, Lib.hid rfl⟩
    case round =>
      obtain ⟨k, hk, rfl, hb, HR⟩ := hrel
      by_cases hlt : k < n
      · have hkx : k < X.length := by rw [HX.out]; exact hlt
        have hky : k < Y.length := by rw [HY.out]; exact hlt
        obtain ⟨b, off, rfl, hbl, hc⟩ := (H1.out.keep hb) (by omega)
        obtain ⟨b2, off2, rfl, hbl2, hc2⟩ := (H2.out.keep hb) (by omega)
        have hu := hc k hkx
        have hv := hc2 k hky
        have he := str_eq X[k] Y[k]
        have hi := take_eq_iff k hkx hky
        obtain ⟨S, hS⟩ : ∃ S : ByteArray, S = ⟨X[k].toArray⟩ := ⟨_, rfl⟩
        obtain ⟨T, hT⟩ : ∃ T : ByteArray, T = ⟨Y[k].toArray⟩ := ⟨_, rfl⟩
        rw [← hS] at hu he
        rw [← hT] at hv he
        clear hS hT hc hc2
        by_cases hxy : X[k] = Y[k]
        · have hE : (S.toList != T.toList) = false := by rw [he]; simp [hxy]
          have hE2 : (S.toList == T.toList) = true := by simpa using hE
          have HN := Lib.hid (hi.2 ⟨HR.out, hxy⟩)
          clear he hi hxy
          go_wp2_with fail
          go_quiet (fail)
          have hbq := below_drewN hb nq
          clear hb hu hv
          generalize wr.drewN nq = wq at hbq ⊢
          go_wp2_with fail
          go_roundw
          case rel => exact ⟨k + 1, by omega, by go_num, hbq, HN⟩
          case measure => simp [intOf]; omega
        · have hE : (S.toList != T.toList) = true := by rw [he]; simp [hxy]
          have hE2 : (S.toList == T.toList) = false := by simpa using hE
          have HF := Lib.hid (show decide (X = Y) = false from decide_eq_false (by rintro rfl; exact hxy rfl))
          clear he hi hxy
          go_wp2_with fail
          go_quiet (fail)
          have hbq := below_drewN hb nq
          clear hb hu hv
          generalize wr.drewN nq = wq at hbq ⊢
          go_wp2_with fail
          go_ret
          exact ⟨ret_bool HF.out.symm, hbq⟩
      · have HF := Lib.hid (show decide (X = Y) = true from decide_eq_true (by
          have h := HR.out
          rwa [List.take_of_length_le (by rw [HX.out]; omega), List.take_of_length_le (by rw [HY.out]; omega)] at h))
        go_wp2_with fail
        go_ret
        exact ⟨ret_bool HF.out.symm, hb⟩
  · have t1 : ((n : Int) != (m : Int)) = true := by rw [bne_iff_ne]; omega
    have HF := Lib.hid (show decide (X = Y) = false from decide_eq_false (by rintro rfl; omega))
    clear hX hY
    go_enter Tryd.func14, Tryd.ntmps14
    go_wp2_with fail
    go_ret
    exact ⟨ret_bool HF.out.symm, Below.refl _ _⟩

theorem rput (q : Option Addr) (L : List (List UInt8)) (n c : Nat) (w : World) (hL : L.length = n) (h : Ss w q L) (hn : n ≤ 1024) (hz : ∀ s ∈ L, s.length ≤ 1024) :
    Calls Tryd.prog 16 #[.slice q n c] w (Gives (texts L) w) := by
  have C := Lib.hid (RefR.rtexts q L n c w hL h hn hz)
  clear h hL hz
  go_enter Tryd.func16, Tryd.ntmps16
  go_wp2_with fail
  refine C.out.mono ?_
  rintro e w1 ⟨v, rfl, hx, hb1⟩
  go_wp2_with fail
  go_ret
  exact ⟨_, rfl, hx, hb1⟩

end Go.Proofs.YtadffjmpkeaikaaDoor.FrameL
