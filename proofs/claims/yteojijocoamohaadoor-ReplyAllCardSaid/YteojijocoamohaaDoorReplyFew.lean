/-
  Texts cut short, and replies of each kind, as the statements of layer 5 make them.
-/
import Derived.Test.YteojijocoamohaaDoorReplyLaw
namespace Go.Proofs.YteojijocoamohaaDoor.ReplyL
open Go.RowKit Kit BytesIn ReplyMath ReplyT ReplyM NumMath NumL
set_option linter.unusedVariables false
set_option maxRecDepth 100000

/-- Texts cut short: 20 at most, each of 100 bytes at most. -/
def fewL (L : List (List UInt8)) : List (List UInt8) := (L.take 20).map (·.take 100)
theorem fewL_len (L : List (List UInt8)) : (fewL L).length ≤ 20 := by
  unfold fewL
  rw [List.length_map, List.length_take]
  omega
theorem fewL_each (L : List (List UInt8)) : ∀ s ∈ fewL L, s.length ≤ 100 := by
  intro s hs
  obtain ⟨t, _, rfl⟩ := List.mem_map.1 hs
  rw [List.length_take]
  omega
def cutS (L : List (List UInt8)) (k : Nat) : List (List UInt8) := (L.take k).map (·.take 100)
theorem cutS_succ (L : List (List UInt8)) (k : Nat) (h : k < L.length) : cutS L (k + 1) = cutS L k ++ [L[k].take 100] := by
  unfold cutS
  rw [List.take_succ_eq_append_getElem h, List.map_append]
  rfl
theorem cutS_all (L : List (List UInt8)) (k : Nat) (h : k = 20 ∨ (k ≤ 20 ∧ L.length ≤ k)) : cutS L k = fewL L := by
  unfold cutS fewL
  rcases h with rfl | ⟨h1, h2⟩
  · rfl
  · rw [List.take_of_length_le h2, List.take_of_length_le (by omega)]

set_option maxHeartbeats 1000000 in
theorem few_any (q : Option Addr) (L : List (List UInt8)) (n c : Nat) (w : World) (hL : L.length = n) (h : Ss w q L) (hz : ∀ s ∈ L, s.length ≤ 140737488351232) (hn : n ≤ 9223372036854775807) :
    Calls Tryd.prog 10 #[.slice q n c] w fun e w' => ∃ v, e = .returned v ∧ OwnS w.heap.size w' v (fewL L) ∧ Below w.heap.size w w' := by
  have HLn := Lib.hid hL
  have HS := Lib.hid h
  have HZ := Lib.hid hz
  have HO0 := Lib.hid (OwnS.new w)
  clear h hL hz
  go_enter Tryd.func10, Tryd.ntmps10
  go_wp2_with fail
  go_loopw [3, 4] (fun v i wr => ∃ k : Nat, k ≤ n ∧ k ≤ 20 ∧ i = .int .i64 k ∧ Below w.heap.size w wr ∧ Hid (OwnS w.heap.size wr v (cutS L k))) (fun _ i _ => n - (intOf i).toNat)
  case atStart => exact ⟨0, Nat.zero_le _, by omega, rfl, below1 _ _, HO0⟩
  case round =>
    obtain ⟨k, hk, hk20, rfl, hb, HO⟩ := hrel
    have hbs := hb.size
    by_cases hlt : k < n
    · have d1 : decide ((k : Int) < (n : Int)) = true := decide_eq_true (by omega)
      by_cases h20 : k < 20
      · have d2 : decide ((k : Int) < 20) = true := decide_eq_true (by omega)
        have hkl : k < L.length := by rw [HLn.out]; exact hlt
        obtain ⟨b, off, rfl, hbl, hc⟩ := (HS.out.keep hb) (by omega)
        have hu := hc k hkl
        obtain ⟨S, hS⟩ : ∃ S : ByteArray, S = ⟨L[k].toArray⟩ := ⟨_, rfl⟩
        have hSz : S.size ≤ 140737488351232 := by rw [hS, size_bytes]; exact HZ.out L[k] (List.getElem_mem hkl)
        have C := Lib.hid (short_any S wr hSz)
        have HSN := Lib.hid (show cutS L (k + 1) = cutS L k ++ [S.data.toList.take 100] by rw [cutS_succ L k hkl, hS])
        rw [← hS] at hu
        clear hS hc
        have HKl := Lib.hid (show (cutS L k).length ≤ 1048576 by unfold cutS; rw [List.length_map, List.length_take]; omega)
        obtain ⟨Y, hY⟩ : ∃ Y, Y = cutS L k := ⟨_, rfl⟩
        rw [← hY] at HSN HO HKl
        obtain ⟨T, hT⟩ : ∃ T : ByteArray, T = ⟨(S.data.toList.take 100).toArray⟩ := ⟨_, rfl⟩
        have HT := Lib.hid (show T.data.toList = S.data.toList.take 100 by rw [hT])
        rw [← hT] at C
        clear hY hT
        go_wp2_with fail
        refine C.out.mono ?_
        rintro e w' ⟨rfl, rfl⟩
        have HO1 := Lib.hid (HO.out.keep (below1 wr (.cells #[.string T] 9)))
        have HC := Lib.hid (show (wr.alloc (.cells #[.string T] 9)).cell? ⟨wr.heap.size, 0, none⟩ = some (.string T) by simp [World.cell?_alloc_mark])
        go_wp2_with (at_builtin; refine wpList_append_s (w0 := w) rfl (.tmp 16) (.tmp 22) rfl u3 Y rfl HO1.out (hb.alloc hbs _) wr.heap.size T _ 1 rfl HT.out HC.out HKl.out ?_; intro v' w2 hown1 hb2)
        go_roundw
        case rel => exact ⟨k + 1, by omega, by omega, by go_num, hb2, by rw [HSN.out]; exact Lib.hid hown1⟩
        case measure => simp [intOf]; omega
      · have d2 : decide ((k : Int) < 20) = false := decide_eq_false (by omega)
        have HF := Lib.hid (show OwnS w.heap.size wr u3 (fewL L) by
          have h1 := HO.out
          rw [cutS_all L k (Or.inl (by omega))] at h1
          exact h1)
        clear HO
        go_wp2_with fail
        go_ret
        exact ⟨_, rfl, HF.out, hb⟩
    · have d1 : decide ((k : Int) < (n : Int)) = false := decide_eq_false (by omega)
      have HF := Lib.hid (show OwnS w.heap.size wr u3 (fewL L) by
        have h1 := HO.out
        rw [cutS_all L k (Or.inr ⟨hk20, by rw [HLn.out]; omega⟩)] at h1
        exact h1)
      clear HO
      go_wp2_with fail
      go_ret
      exact ⟨_, rfl, HF.out, hb⟩

/-- The replies that the text at a place makes. -/
def stepR (L : List (List UInt8)) (n : Int) (k : Nat) : List (List UInt8) :=
  if k % 4 = 0 then [bulk (L.getD k [])] else if k % 4 = 1 then [simple (L.getD k []), int n] else if k % 4 = 2 then [err (L.getD k [])] else [texts (L.take k)]
def reps (L : List (List UInt8)) (n : Int) : Nat → List (List UInt8)
  | 0 => [noArray, null]
  | k + 1 => reps L n k ++ stepR L n k
theorem stepR_len (L : List (List UInt8)) (n : Int) (k : Nat) : (stepR L n k).length ≤ 2 := by
  unfold stepR
  split
  · simp
  · split
    · simp
    · split <;> simp
theorem reps_len (L : List (List UInt8)) (n : Int) : ∀ k, (reps L n k).length ≤ 2 + 2 * k
  | 0 => by simp [reps]
  | k + 1 => by
    rw [reps, List.length_append]
    have := reps_len L n k
    have := stepR_len L n k
    omega
theorem getD_le (L : List (List UInt8)) (k m : Nat) (h : ∀ s ∈ L, s.length ≤ m) : (L.getD k []).length ≤ m := by
  rw [List.getD_eq_getElem?_getD]
  cases hk : L[k]? with
  | none => simp
  | some s =>
    exact h s (List.mem_of_getElem? hk)
theorem bulk_le (s : List UInt8) (h : s.length ≤ 1048576) : (bulk s).length ≤ s.length + 25 := by
  have := itoa_len (s.length : Int) (by omega) (by omega)
  simp [bulk]
  omega
theorem bulks_le : ∀ (L : List (List UInt8)), (∀ s ∈ L, s.length ≤ 100) → (L.map bulk).flatten.length ≤ 125 * L.length
  | [], _ => by simp
  | s :: L, h => by
    have h1 := bulk_le s (by have := h s (by simp); omega)
    have h2 := bulks_le L (fun t ht => h t (by simp [ht]))
    have h3 := h s (by simp)
    simp only [List.map_cons, List.flatten_cons, List.length_append, List.length_cons]
    omega
theorem texts_le (L : List (List UInt8)) (h : ∀ s ∈ L, s.length ≤ 100) (hL : L.length ≤ 1000) : (texts L).length ≤ 125 * L.length + 23 := by
  have h1 := bulks_le L h
  have h2 := itoa_len (L.length : Int) (by omega) (by omega)
  simp only [texts, array, List.length_cons, List.length_append, List.length_map]
  omega
theorem int_le (n : Int) (h0 : -9223372036854775808 ≤ n) (h1 : n ≤ 9223372036854775807) : (int n).length ≤ 23 := by
  have := itoa_len n h0 h1
  simp [int]
  omega
theorem flat_le (s : List UInt8) : (flat s).length = s.length := by simp [flat]
theorem reps_each (L : List (List UInt8)) (n : Int) (h0 : -9223372036854775808 ≤ n) (h1 : n ≤ 9223372036854775807) (h : ∀ s ∈ L, s.length ≤ 100) (hL : L.length ≤ 20) : ∀ k, ∀ x ∈ reps L n k, Reply x ∧ x.length ≤ 3000
  | 0, x, hx => by
    simp [reps] at hx
    rcases hx with rfl | rfl
    · exact ⟨reply_noArray, by decide⟩
    · exact ⟨reply_null, by decide⟩
  | k + 1, x, hx => by
    rw [reps] at hx
    rcases List.mem_append.1 hx with hx | hx
    · exact reps_each L n h0 h1 h hL k x hx
    · have hg := getD_le L k 100 h
      unfold stepR at hx
      generalize L.getD k [] = g at hx hg
      split at hx
      · simp at hx
        subst hx
        exact ⟨reply_bulk _ (by omega), by have := bulk_le g (by omega); omega⟩
      · split at hx
        · simp at hx
          rcases hx with rfl | rfl
          · exact ⟨reply_simple _, by simp only [simple, List.length_cons, List.length_append, flat_le, List.length_nil]; omega⟩
          · exact ⟨reply_int n h0 h1, by have := int_le n h0 h1; omega⟩
        · split at hx
          · simp at hx
            subst hx
            exact ⟨reply_err _, by simp only [err, List.length_cons, List.length_append, flat_le, List.length_nil]; omega⟩
          · simp at hx
            subst hx
            have ht : ∀ s ∈ L.take k, s.length ≤ 100 := fun s hs => h s (List.mem_of_mem_take hs)
            have hl : (L.take k).length ≤ 20 := by rw [List.length_take]; omega
            exact ⟨reply_texts _ (by omega) (fun s hs => by have := ht s hs; omega), by have := texts_le _ ht (by omega); omega⟩
theorem flatten_le : ∀ (R : List (List UInt8)), (∀ x ∈ R, x.length ≤ 3000) → R.flatten.length ≤ 3000 * R.length
  | [], _ => by simp
  | x :: R, h => by
    have h1 := flatten_le R (fun y hy => h y (by simp [hy]))
    have h2 := h x (by simp)
    simp only [List.flatten_cons, List.length_append, List.length_cons]
    omega
theorem array_le (R : List (List UInt8)) (h : ∀ x ∈ R, x.length ≤ 3000) (hR : R.length ≤ 1000) : (array R).length ≤ 3000 * R.length + 23 ∧ 4 ≤ (array R).length := by
  have h1 := flatten_le R h
  have h2 := itoa_len (R.length : Int) (by omega) (by omega)
  have h3 := itoa_len_pos (R.length : Int)
  simp only [array, List.length_cons, List.length_append]
  omega
theorem flatten_drop (R : List (List UInt8)) (k : Nat) (h : k < R.length) : (R.drop k).flatten = R[k] ++ (R.drop (k + 1)).flatten := by
  rw [List.drop_eq_getElem_cons h, List.flatten_cons]
theorem flatten_snoc' (L : List (List UInt8)) (k : Nat) (h : k < L.length) : (L.take (k + 1)).flatten = (L.take k).flatten ++ L[k] := by
  rw [List.take_succ_eq_append_getElem h, List.flatten_append, List.flatten_cons, List.flatten_nil, List.append_nil]
theorem flatten_take_le' (L : List (List UInt8)) (k : Nat) : (L.take k).flatten.length ≤ L.flatten.length := by
  have h := congrArg (fun x => x.flatten.length) (List.take_append_drop k L)
  simp only [List.flatten_append, List.length_append] at h
  omega
theorem flatten_drop_le (L : List (List UInt8)) (k : Nat) : (L.drop k).flatten.length ≤ L.flatten.length := by
  have h := congrArg (fun x => x.flatten.length) (List.take_append_drop k L)
  simp only [List.flatten_append, List.length_append] at h
  omega

/-- Take of a reply with something behind it. -/
theorem take_yes (p : Option Addr) (x r : List UInt8) (n c : Nat) (w : World) (hx : Reply x) (hn : x.length + r.length = n) (hb : Bs w p (x ++ r)) (hc : n ≤ c) (hcm : c ≤ 9223372036854775807) (hz : n ≤ 1048576) (hnil : p = none → c = 0) (hg : Gx w) :
    Calls Tryd.prog 11 #[.slice p n c] w fun e w' => (∃ v u, e = .returned (.tuple #[v, u, .bool true]) ∧ Ans w.heap.size w' v x ∧ Ans w.heap.size w' u r) ∧ Below w.heap.size w w' := by
  refine (take_any p (x ++ r) n c w (by rw [List.length_append]; exact hn) hb hc hcm hz hnil hg).mono ?_
  rintro e w' ⟨hbl, ⟨x', r', v, u, hxr, hs, he, hv, hu⟩ | ⟨hno, -⟩⟩
  · have h1 := hs.det (hx r)
    subst h1
    have h2 := List.append_cancel_right hxr
    subst h2
    exact ⟨⟨v, u, he, hv, hu⟩, hbl⟩
  · exact absurd (hx r) (hno r)
/-- Take of what begins with no reply. -/
theorem take_no (p : Option Addr) (l : List UInt8) (n c : Nat) (w : World) (hl : ∀ r, ¬ Skips 1 l r) (hn : l.length = n) (hb : Bs w p l) (hc : n ≤ c) (hcm : c ≤ 9223372036854775807) (hz : n ≤ 1048576) (hnil : p = none → c = 0) (hg : Gx w) :
    Calls Tryd.prog 11 #[.slice p n c] w fun e w' => (∃ v u, e = .returned (.tuple #[v, u, .bool false]) ∧ Ans w.heap.size w' v [] ∧ Ans w.heap.size w' u []) ∧ Below w.heap.size w w' := by
  refine (take_any p l n c w hn hb hc hcm hz hnil hg).mono ?_
  rintro e w' ⟨hbl, ⟨x', r', v, u, hxr, hs, he, hv, hu⟩ | ⟨-, h⟩⟩
  · exact absurd hs (hl _)
  · exact ⟨h, hbl⟩

/-- An answer that is read as a text later, in whatever world keeps it. -/
def Said (w2 W : World) (N : Nat) (XS : ByteArray) (e : Ending) (w' : World) : Prop :=
  ∃ p c, e = .returned (.slice p N c) ∧ (∀ V, Below w'.heap.size w' V → (convert 23 9 (.slice p N c)).run Tryd.prog V = .ok (.string XS) V) ∧ Below w2.heap.size w2 w' ∧ Below W.heap.size W w' ∧ Below w'.heap.size w' w'
theorem Gives.said {w2 W : World} {l : List UInt8} {e : Ending} {w' : World} (h : Gives l W e w') (hW : Below w2.heap.size w2 W) (N : Nat) (hN : l.length = N) (XS : ByteArray) (hX : XS = ⟨l.toArray⟩) : Said w2 W N XS e w' := by
  subst hX hN
  obtain ⟨v, rfl, ⟨p, c, rfl, hB, -⟩, hb⟩ := h
  exact ⟨p, c, rfl, fun V hV => bs_string (hB.keep hV) _ c rfl, hW.trans (hb.mono hW.size), hb, Below.refl _ _⟩

end Go.Proofs.YteojijocoamohaaDoor.ReplyL
