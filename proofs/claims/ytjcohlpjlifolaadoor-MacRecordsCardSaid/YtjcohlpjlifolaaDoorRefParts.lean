/-
  What the reference's parts comes to: a text cut at every colon.
-/
import Derived.Test.YtjcohlpjlifolaaDoorMacTexts
import Derived.Test.YtjcohlpjlifolaaDoorQuietTail
import Derived.Deep.AppendLies
namespace Go.Proofs.YtjcohlpjlifolaaDoor.RefM
open Go.RowKit Kit ShaMath ShaT MacM MacT HexMath NumMath
open Go.Sort (grow)
set_option linter.unusedVariables false
set_option maxRecDepth 100000

/-- The texts so far, and the one that grows. -/
abbrev St := List (List UInt8) × List UInt8
def stepP (st : St) (c : UInt8) : St := if c = 58 then (st.1 ++ [st.2], []) else (st.1, st.2 ++ [c])
def partsS (l : List UInt8) : St := l.foldl stepP ([], [])
theorem partsS_snoc (l : List UInt8) (c : UInt8) : partsS (l ++ [c]) = stepP (partsS l) c := by simp [partsS]
def joinP : List (List UInt8) → List UInt8 → List UInt8
  | [], t => t
  | a :: r, t => a ++ 58 :: joinP r t
theorem joinP_colon : ∀ (i : List (List UInt8)) (t : List UInt8), joinP (i ++ [t]) [] = joinP i t ++ [58]
  | [], t => by simp [joinP]
  | a :: r, t => by simp [joinP, joinP_colon r t]
theorem joinP_more : ∀ (i : List (List UInt8)) (t : List UInt8) (c : UInt8), joinP i (t ++ [c]) = joinP i t ++ [c]
  | [], t, c => by simp [joinP]
  | a :: r, t, c => by simp [joinP, joinP_more r t c]
structure Inv (st : St) (l : List UInt8) : Prop where
  j : joinP st.1 st.2 = l
  f : ∀ x ∈ st.1, ¬ (58 : UInt8) ∈ x
  t : ¬ (58 : UInt8) ∈ st.2
theorem Inv.step {st : St} {l : List UInt8} (h : Inv st l) (c : UInt8) : Inv (stepP st c) (l ++ [c]) := by
  unfold stepP
  by_cases hc : c = 58
  · rw [if_pos hc]
    refine ⟨by rw [joinP_colon, h.j, hc], fun x hx => ?_, by simp⟩
    rcases List.mem_append.1 hx with hx | hx
    · exact h.f x hx
    · rw [List.mem_singleton.1 hx]; exact h.t
  · rw [if_neg hc]
    refine ⟨by rw [joinP_more, h.j], h.f, fun hx => ?_⟩
    rcases List.mem_append.1 hx with hx | hx
    · exact h.t hx
    · exact hc (List.mem_singleton.1 hx).symm
theorem inv_fold : ∀ (l : List UInt8) (st : St) (pre : List UInt8), Inv st pre → Inv (l.foldl stepP st) (pre ++ l)
  | [], st, pre, h => by simpa using h
  | c :: r, st, pre, h => by
    have := inv_fold r (stepP st c) (pre ++ [c]) (h.step c)
    simpa using this
theorem inv_parts (l : List UInt8) : Inv (partsS l) l := by
  have := inv_fold l ([], []) [] ⟨rfl, by simp, by simp⟩
  simpa [partsS] using this
theorem join_len : ∀ (i : List (List UInt8)) (t : List UInt8), i.length + t.length ≤ (joinP i t).length
  | [], t => by simp [joinP]
  | a :: r, t => by
    have := join_len r t
    simp [joinP]
    omega
theorem parts_len (l : List UInt8) : (partsS l).1.length + (partsS l).2.length ≤ l.length := by
  have h := join_len (partsS l).1 (partsS l).2
  rw [(inv_parts l).j] at h
  exact h
/-- Three parts are what a record wants. -/
theorem parts_three (l : List UInt8) (a b : List UInt8) (h : (partsS l).1 = [a, b]) : recOf l = recOf3 a b (partsS l).2 := by
  have hi := inv_parts l
  have hj := hi.j
  rw [h] at hj
  have ha := hi.f a (by rw [h]; simp)
  have hb := hi.f b (by rw [h]; simp)
  generalize (partsS l).2 = t at hj ⊢
  apply recOf_three
  rw [← hj]
  exact three_join a b _ ha hb
theorem parts_other (l : List UInt8) (h : (partsS l).1.length ≠ 2) : recOf l = none := by
  have hi := inv_parts l
  have hj := hi.j
  have hf := hi.f
  have ht := hi.t
  generalize (partsS l).2 = t at hj ht
  match hp : (partsS l).1 with
  | [] =>
    rw [hp] at hj
    apply recOf_no
    unfold three
    rw [← hj]
    show (match cutL t with | none => none | some (a, r) => match cutL r with | none => none | some (b, c) => some (a, b, c)) = none
    rw [cutL_free t ht]
  | [a] =>
    rw [hp] at hj hf
    apply recOf_no
    unfold three
    rw [← hj]
    show (match cutL (a ++ 58 :: t) with | none => none | some (a, r) => match cutL r with | none => none | some (b, c) => some (a, b, c)) = none
    rw [cutL_join a t (hf a (by simp))]
    simp only
    rw [cutL_free t ht]
  | [a, b] => rw [hp] at h; exact absurd rfl h
  | a :: b :: c :: r =>
    rw [hp] at hj hf
    have h3 : three l = some (a, b, joinP (c :: r) t) := by
      rw [← hj]
      exact three_join a b _ (hf a (by simp)) (hf b (by simp))
    rw [recOf_three h3]
    apply recOf3_c
    apply unhex_colon
    simp [joinP]

/-- The texts as they lie in memory. -/
def strs (st : St) : List Value := (st.1 ++ [st.2]).map fun x => Value.string ⟨x.toArray⟩
theorem strs_length (st : St) : (strs st).length = st.1.length + 1 := by simp [strs]
theorem strs_colon (st : St) : strs (stepP st 58) = strs st ++ [.string ⟨#[]⟩] := by
  unfold strs stepP
  rw [if_pos rfl]
  simp
theorem strs_more (st : St) (c : UInt8) (hc : c ≠ 58) : strs (stepP st c) = (strs st).set st.1.length (.string (⟨st.2.toArray⟩ ++ ⟨#[c]⟩)) := by
  unfold strs stepP
  rw [if_neg hc]
  have e : (⟨(st.2 ++ [c]).toArray⟩ : ByteArray) = ⟨st.2.toArray⟩ ++ ⟨#[c]⟩ := by
    apply ByteArray.ext
    apply Array.toList_inj.1
    simp
  rw [← e]
  simp [List.set_append_right]
theorem strs_last (st : St) : (strs st)[st.1.length]? = some (.string ⟨st.2.toArray⟩) := by
  unfold strs
  simp
theorem strs_at (st : St) (j : Nat) (x : List UInt8) (h : st.1[j]? = some x) : (strs st)[j]? = some (.string ⟨x.toArray⟩) := by
  have hj : j < st.1.length := by
    rcases Nat.lt_or_ge j st.1.length with h' | h'
    · exact h'
    · rw [List.getElem?_eq_none h'] at h; cases h
  unfold strs
  rw [List.getElem?_map, List.getElem?_append_left hj, h]
  rfl
theorem str_parts : (Tryd.prog.info? 9).map (fun i => (i.zero, i.size, i.bytes)) = some (some (.string ByteArray.empty), 1, 16) := by kernel_rfl

/-- A row of texts is handed back. -/
def GaveS (st : St) (w : World) (e : Ending) (w' : World) : Prop :=
  ∃ g c, e = .returned (.slice (some ⟨g, 0, none⟩) (st.1.length + 1) c) ∧ w'.ownsRow w.heap.size 9 1 (.slice (some ⟨g, 0, none⟩) (st.1.length + 1) c) (st.1.length + 1) (strs st) ∧ Below w.heap.size w w'

set_option maxHeartbeats 2000000 in
theorem parts_any (s : ByteArray) (w : World) (hz : s.size ≤ 1048576) :
    Calls Tryd.prog 50 #[.string s] w (GaveS (partsS s.data.toList) w) := by
  obtain ⟨i0, hi0, hz0, hz1, hzb⟩ := info_parts str_parts
  have hs : s.data.toList.length = s.size := by simp
  have HS := Lib.hid hs
  have hlits := World.ownsRow_lit (base := w.heap.size) (e := 9) (size := 1) w #[.string ⟨#[]⟩] 1 (Nat.le_refl _) (by simp [maxLen]) rfl
  have HL0 := Lib.hid hlits
  clear hs hlits
  go_enter Tryd.func50, Tryd.ntmps50
  go_wp2_with fail
  go_loopw [3, 4] (fun v i wr => ∃ k : Nat, k ≤ s.size ∧ i = .int .i64 k ∧ wr.ownsRow w.heap.size 9 1 v ((partsS (s.data.toList.take k)).1.length + 1) (strs (partsS (s.data.toList.take k))) ∧ Below w.heap.size w wr) (fun _ i _ => s.size - (intOf i).toNat)
  case atStart => exact ⟨0, Nat.zero_le _, rfl, HL0.out, below1 _ _⟩
  case round =>
    obtain ⟨k, hk, rfl, ho, hbr⟩ := hrel
    obtain ⟨g, c, rfl, hg, hgl⟩ := ho.form (by omega)
    obtain ⟨st, hst⟩ : ∃ st, st = partsS (s.data.toList.take k) := ⟨_, rfl⟩
    rw [← hst] at ho ⊢
    have hlen : st.1.length + st.2.length ≤ k := by
      rw [hst]
      have := parts_len (s.data.toList.take k)
      rw [List.length_take] at this
      omega
    by_cases hlt : k < s.size
    · have hlt' : k < s.data.toList.length := by rw [HS.out]; exact hlt
      obtain ⟨ch, hch⟩ : ∃ ch, ch = s.data.toList[k] := ⟨_, rfl⟩
      have HST := Lib.hid (show partsS (s.data.toList.take (k + 1)) = stepP st ch by rw [List.take_succ_eq_append_getElem hlt', partsS_snoc, hst, hch])
      have i1 := fun W => idx_at s k ch (by rw [List.getElem?_eq_getElem hlt', hch]) (k : Int) rfl W
      have h256 := UInt8.toNat_lt ch
      obtain ⟨N, hN⟩ : ∃ N, N = st.1.length + 1 := ⟨_, rfl⟩
      have HNe := Lib.hid hN
      have hN1 : 1 ≤ N := by omega
      have hNb : N ≤ 1048577 := by omega
      rw [← hN] at ho ⊢
      have HO := Lib.hid ho
      have HBr := Lib.hid hbr
      by_cases h58 : ch = 58
      · have q58 : ((ch.toNat : Int) == 58) = true := by rw [h58]; rfl
        have HX := Lib.hid (show strs (stepP st ch) = strs st ++ [.string ⟨#[]⟩] by rw [h58]; exact strs_colon st)
        have HXl := Lib.hid (show (stepP st ch).1.length + 1 = N + 1 by rw [h58, hN]; simp [stepP])
        clear hst hch hN ho hbr h58 hlen
        go_wp2_with (at_builtin; refine wpList_append_own _ rfl (.tmp 16) (.tmp 17) 71 rfl w.heap.size 9 i0 (.string ByteArray.empty) 1 16 Tryd.underlying71 hi0 hz0 hz1 hzb rfl (by decide) (.slice (some ⟨g, 0, none⟩) N c) N (strs st) rfl (HO.out.alloc _) ⟨wr.heap.size, 0, none⟩ 1 1 [.string ⟨#[]⟩] rfl rfl (one_news _ _ _) (by simp [Value.oneCell']) (by unfold maxLen; omega) (by omega) (by have := HBr.out.size; simp; omega) ?_; intro v' w1 hown1 hgrow _)
        have HO1 := Lib.hid hown1
        have HB1 := Lib.hid ((HBr.out.alloc HBr.out.size _).grown hgrow (by have := HBr.out.size; simp; omega) (by intro j hj; simp [Value.ownBlock] at hj; omega))
        clear hown1 hgrow
        go_wp2_with fail
        go_roundw
        case rel => exact ⟨k + 1, by omega, by go_num, by rw [HST.out, HX.out, HXl.out]; exact HO1.out, HB1.out⟩
        case measure => simp [intOf]; omega
      · have q58 : ((ch.toNat : Int) == 58) = false := by
          rw [beq_eq_false_iff_ne]
          intro e
          apply h58
          apply UInt8.toNat_inj.1
          show ch.toNat = 58
          omega
        obtain ⟨LS, hLS⟩ : ∃ LS : ByteArray, LS = ⟨st.2.toArray⟩ := ⟨_, rfl⟩
        obtain ⟨CS, hCS⟩ : ∃ CS : ByteArray, CS = ⟨#[ch]⟩ := ⟨_, rfl⟩
        have hLSz : LS.size ≤ 1048576 := by rw [hLS, size_bytes]; omega
        have hCSz : CS.size = 1 := by rw [hCS]; rfl
        have hCSb : CS.size ≤ 1 := by omega
        have HX := Lib.hid (show strs (stepP st ch) = (strs st).set (N - 1) (.string (LS ++ CS)) by rw [strs_more st ch h58, hLS, hCS, hN, Nat.add_sub_cancel])
        have HXl := Lib.hid (show (stepP st ch).1.length + 1 = N by rw [hN]; unfold stepP; rw [if_neg h58])
        have c0 : wr.cell? ⟨g, N - 1, none⟩ = some (.string LS) := by rw [ho.cellAt (N - 1) (by omega), hN, Nat.add_sub_cancel, strs_last, hLS]
        have z0 := ho.frozenAt (N - 1)
        have n1 : ((N : Int) - 1).toNat = N - 1 := by omega
        have n2 : (0 : Int) ≤ (N : Int) - 1 := by omega
        have s1 : ∀ W, (Instr.slice 9 (.string s) (some (.int .i64 (k : Int))) (some (.int .i64 ((k : Int) + 1))) none).run Tryd.prog W = .ok (.string CS) W := fun W => by
          have h := run_slice_string (P := Tryd.prog) W 9 s .i64 .i64 (k : Int) ((k : Int) + 1) Tryd.underlying9 (by omega) (by omega) (by omega)
          rw [show s.extract (k : Int).toNat ((k : Int) + 1).toNat = CS by
            apply ByteArray.ext
            apply Array.toList_inj.1
            rw [Lib.extract_data, hCS, show ((k : Int) + 1).toNat = k + 1 by omega, Int.toNat_natCast, show k + 1 - k = 1 by omega, List.drop_eq_getElem_cons hlt', ← hch]
            rfl] at h
          exact h
        clear hst hch hN ho hbr h58 hlen hLS hCS hCSz
        go_wp2_with fail
        refine wp_region_quiet_tail_lit 17 (by kernel_rfl) (by kernel_rfl) ?_
        simp only [List.take_succ_cons, List.take_zero, List.drop_succ_cons, List.drop_zero]
        repeat (go_big_quiet_step (fail))
        refine wpQuiet_nil ?_
        rintro _ ⟨nq, rfl⟩
        have HOq := Lib.hid (show (wr.drewN nq).ownsRow w.heap.size 9 1 (.slice (some ⟨g, 0, none⟩) N c) N (strs st) from HO.out)
        have HBq := Lib.hid (show Below w.heap.size w (wr.drewN nq) from HBr.out.trans ⟨rfl, rfl, rfl, Nat.le_refl _, fun _ _ => rfl⟩)
        clear c0 z0 HO HBr s1 i1
        generalize wr.drewN nq = wq at HOq HBq ⊢
        have c0 : ∃ v, wq.cell? ⟨g, N - 1, none⟩ = some v := by
          rw [HOq.out.cellAt (N - 1) (by omega)]
          have : N - 1 < (strs st).length := by rw [strs_length]; have := HNe.out; omega
          exact ⟨_, List.getElem?_eq_getElem this⟩
        obtain ⟨vv, c0⟩ := c0
        have z0 := HOq.out.frozenAt (N - 1)
        have HSt := Lib.hid ((HOq.out.stored (N - 1) (.string (LS ++ CS))).1)
        go_wp2_with fail
        go_roundw
        case rel => exact ⟨k + 1, by omega, by go_num, by rw [HST.out, HX.out, HXl.out]; exact HSt.out, HBq.out.setCell hg _⟩
        case measure => simp [intOf]; omega
    · have HK := Lib.hid (show partsS s.data.toList = st by rw [hst, List.take_of_length_le (by rw [HS.out]; omega)])
      have HO := Lib.hid ho
      clear hst ho hlen
      go_wp2_with fail
      go_ret
      rw [HK.out]
      exact ⟨g, c, rfl, HO.out, hbr⟩

end Go.Proofs.YtjcohlpjlifolaaDoor.RefM
