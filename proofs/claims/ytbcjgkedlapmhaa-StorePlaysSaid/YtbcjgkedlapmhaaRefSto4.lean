/-
  The document's own store: deadlines.
-/
import Derived.Test.YtbcjgkedlapmhaaRefSto3
namespace Go.Proofs.Ytbcjgkedlapmhaa.RefY
open Go.RowKit Kit StrT RowG BOrd ValT StoT
open Go.Op (bytesLess)
set_option linter.unusedVariables false
set_option maxRecDepth 100000

theorem rm_let (k : List UInt8) (P : List (En PV)) : rm k (letL k P) = rm k P := by
  unfold rm letL
  rw [List.filter_filter]
  refine List.filter_congr fun e _ => ?_
  by_cases h : e.key = k <;> simp [h]
theorem let_there {k : List UInt8} {P : List (En PV)} (h : ordE P) {e : En PV} (hl : lookE k (letL k P) = some e) : letL k P = P := by
  obtain ⟨h1, h2⟩ := look_some hl
  unfold letL at h1
  obtain ⟨h3, h4⟩ := List.mem_filter.1 h1
  obtain ⟨i, hi, rfl⟩ := List.getElem_of_mem h3
  refine letL_keep h hi h2 ?_
  simpa [h2] using h4
section
variable {w : World} {y : Nat} {g nl cl : Nat} {qc : Option Addr} {nc cc : Nat} {P : List (En PV)} {Q : List Cn} {t : Nat}
/-- One cell of an entry changed. -/
theorem yr_entry (H : YR w y (some ⟨g, 0, none⟩) nl cl qc nc cc P Q t) (i d : Nat) (a : En PV) (u : Value) (hi : i < P.length) (hd : d < 9) (he : enE.enc a = (enE.enc P[i]).set d u) : YR (w.setCell ⟨g, i * 9 + d, none⟩ u) y (some ⟨g, 0, none⟩) nl cl qc nc cc (P.set i a) Q t ∧ YStep w y (some ⟨g, 0, none⟩) qc (w.setCell ⟨g, i * 9 + d, none⟩ u) (some ⟨g, 0, none⟩) qc := by
  have hne : ∀ k, k ≠ g → (w.setCell ⟨g, i * 9 + d, none⟩ u).heap[k]? = w.heap[k]? := fun k hk => heap_setCell_other _ _ _ _ hk
  obtain ⟨hp, rl, rc, yl, yc, lc⟩ := H
  have hyg : y ≠ g := fun e => yl _ rfl e.symm
  rcases rl with ⟨h, -⟩ | ⟨g', e, h⟩
  · cases h
  injection e with e
  injection e with e
  subst e
  refine ⟨⟨by rw [hne y hyg]; exact hp, Or.inr ⟨_, rfl, h.set i d a u hi hd he⟩, rc.same (fun a ha => hne _ (fun e => lc _ a rfl ha e.symm)), yl, yc, lc⟩, ⟨⟨rfl, rfl, rfl, by simp [World.setCell], fun k hk hF => hne k (fun e => hF (Or.inr (Or.inl ⟨_, rfl, e.symm⟩)))⟩, Gr.refl _ _⟩⟩
theorem yr_room (H : YR w y (some ⟨g, 0, none⟩) nl cl qc nc cc P Q t) (i : Nat) (hi : i < P.length) :
    (w.cell? ⟨g, i * 9, none⟩ = some (.string ⟨P[i].key.toArray⟩) ∧ w.cell? ⟨g, i * 9 + 1, none⟩ = some (.int .u8 P[i].v.k) ∧ w.cell? ⟨g, i * 9 + 2, none⟩ = some (.string P[i].v.S) ∧
    w.cell? ⟨g, i * 9 + 3, none⟩ = some (.slice P[i].v.ql P[i].v.nl P[i].v.cl) ∧ w.cell? ⟨g, i * 9 + 4, none⟩ = some (.slice P[i].v.qh P[i].v.nh P[i].v.ch) ∧ w.cell? ⟨g, i * 9 + 5, none⟩ = some (.slice P[i].v.qz P[i].v.nz P[i].v.cz) ∧
    w.cell? ⟨g, i * 9 + 6, none⟩ = some (.int .i64 P[i].due) ∧ w.cell? ⟨g, i * 9 + 7, none⟩ = some (.bool P[i].on) ∧ w.cell? ⟨g, i * 9 + 8, none⟩ = some (.bool P[i].past)) ∧ ∀ j, w.frozen? ⟨g, j, none⟩ = false := by
  constructor
  · obtain ⟨b, off, e, -, h⟩ := en_cells H.rl.rs i hi
    injection e with e
    injection e with e1 e2
    subst e1 e2
    simpa only [Nat.zero_add] using h
  · intro j
    rcases H.rl with ⟨h, -⟩ | ⟨g', e, h⟩
    · cases h
    · injection e with e
      injection e with e
      subst e
      exact h.frz j
end
theorem some_row {w : World} {y : Nat} {ql : Option Addr} {nl cl : Nat} {qc : Option Addr} {nc cc : Nat} {P : List (En PV)} {Q : List Cn} {t : Nat} (H : YR w y ql nl cl qc nc cc P Q t) {i : Nat} (hi : i < P.length) : ∃ g, ql = some ⟨g, 0, none⟩ := by
  rcases H.rl with ⟨-, -, -, h⟩ | ⟨g, h, -⟩
  · subst h; simp at hi
  · exact ⟨g, h⟩
theorem dueV_none {k : List UInt8} {P : List (En PV)} (h : lookE k (letL k P) = none) : dueV k P = (0, false) := by
  unfold dueV
  rw [h]
theorem dueV_some {k : List UInt8} {P : List (En PV)} {e : En PV} (h : lookE k (letL k P) = some e) : dueV k P = if e.on then (e.due, true) else (0, false) := by
  unfold dueV
  rw [h]
set_option maxHeartbeats 4000000 in
theorem rdue {y : Nat} {ql : Option Addr} {nl cl : Nat} {qc : Option Addr} {nc cc : Nat} {P : List (En PV)} {Q : List Cn} {t : Nat} (K : ByteArray) (k : List UInt8) (w : World) (hK : K.data.toList = k) (H : YR w y ql nl cl qc nc cc P Q t) (ho : ordE P) (hz : nl ≤ 1000000) :
    Calls Try.prog 24 #[.pointer (some ⟨y, 0, none⟩), .string K] w fun e w' => e = .returned (.tuple #[.int .i64 (dueV k P).1, .bool (dueV k P).2]) ∧ ∃ ql' nl' cl', YR w' y ql' nl' cl' qc nc cc (letL k P) Q t ∧ YStep w y ql qc w' ql' qc := by
  have HO := Lib.hid (ord_let (k := k) ho)
  have HKh := Lib.hid hK
  have HLl := Lib.hid (show (letL k P).length ≤ nl by rw [← H.rl.len]; exact List.length_filter_le _ _)
  have CL := Lib.hid (rlet K k _ hK H ho hz)
  have HD0 := Lib.hid (dueV_none (k := k) (P := P))
  have HD1 := Lib.hid (fun e => dueV_some (k := k) (P := P) (e := e))
  obtain ⟨dv, hdv⟩ : ∃ dv, dv = dueV k P := ⟨_, rfl⟩
  rw [← hdv] at HD0 HD1 ⊢
  clear H ho hK hdv
  go_enter Try.func24, Try.ntmps24
  go_wp2_with fail
  refine CL.out.mono ?_
  rintro e w2 ⟨rfl, ql', nl', cl', hy, hs⟩
  have HY := Lib.hid hy
  have HSt := Lib.hid hs
  have hN2 := HY.out.rl.len
  have CF := Lib.hid (rfind K k w2 HKh.out HY.out (by have := HLl.out; omega))
  have HN := Lib.hid hN2
  clear hy hs CL hN2
  go_wp2_with fail
  refine CF.out.mono ?_
  rintro e w3 ⟨⟨r, rfl, hr⟩, rfl⟩
  rcases find_look HO.out hr with ⟨rfl, hlk, -⟩ | ⟨i, hi, rfl, hk, hlk⟩
  · have HE := Lib.hid (show dv = (0, false) from HD0.out hlk)
    clear hr hlk
    go_wp2_with fail
    go_ret2
    exact ⟨by rw [HE.out]; rfl, ql', nl', cl', HY.out, HSt.out⟩
  · obtain ⟨g, hg⟩ := some_row HY.out hi
    subst hg
    obtain ⟨c0, -, -⟩ := yr_cells HY.out
    obtain ⟨⟨-, -, -, -, -, -, u6, u7, -⟩, -⟩ := yr_room HY.out i hi
    have hi0 : (0 : Int) ≤ (i : Int) := by omega
    have hi1 : (i : Int) < (nl' : Int) := by have := HN.out; omega
    cases hon : ((letL k P)[i]'hi).on with
    | true =>
      rw [hon] at u7
      have HE := Lib.hid (show dv = (((letL k P)[i]'hi).due, true) by rw [HD1.out _ hlk]; simp [hon])
      generalize ((letL k P)[i]'hi).due = dd at u6 HE
      clear hr hlk hk hon
      go_wp2_with fail
      go_ret2
      exact ⟨by rw [HE.out]; rfl, _, nl', cl', HY.out, HSt.out⟩
    | false =>
      rw [hon] at u7
      have HE := Lib.hid (show dv = (0, false) by rw [HD1.out _ hlk]; simp [hon])
      clear hr hlk hk hon u6
      go_wp2_with fail
      go_ret2
      exact ⟨by rw [HE.out]; rfl, _, nl', cl', HY.out, HSt.out⟩

/-- What a new deadline comes to. -/
def dueP (k : List UInt8) (at_ : Int) (on : Bool) (t : Nat) (P : List (En PV)) : List (En PV) := if (lookE k (letL k P)).isSome then (if on = true ∧ at_ ≤ (t : Int) then rm k P else up k (dueE at_ on) P) else letL k P
def dueC (k : List UInt8) (P : List (En PV)) (C : List UInt8 → Nat) : List UInt8 → Nat := if (lookE k (letL k P)).isSome then cnt k C else C
set_option maxHeartbeats 8000000 in
theorem rsetdue {y : Nat} {ql : Option Addr} {nl cl : Nat} {qc : Option Addr} {nc cc : Nat} {P : List (En PV)} {Q : List Cn} {t : Nat} (K : ByteArray) (k : List UInt8) (at_ : Int) (on : Bool) (w : World) (hK : K.data.toList = k) (H : YR w y ql nl cl qc nc cc P Q t) (ho : ordE P) (hz : nl ≤ 1000000) (hzc : nc ≤ 1000000) (hm : ∀ x ∈ Q, x.n ≤ 1000000000000) :
    Calls Try.prog 16 #[.pointer (some ⟨y, 0, none⟩), .string K, .int .i64 at_, .bool on] w fun e w' => e = .returned (.bool (lookE k (letL k P)).isSome) ∧
      ∃ ql' nl' cl' qc' nc' cc' Q', YR w' y ql' nl' cl' qc' nc' cc' (dueP k at_ on t P) Q' t ∧ YStep w y ql qc w' ql' qc' ∧ (∀ x, cntL Q' x = dueC k P (cntL Q) x) ∧ LenP Q Q' k := by
  have HO := Lib.hid (ord_let (k := k) ho)
  have HO0 := Lib.hid ho
  have HKh := Lib.hid hK
  have HM := Lib.hid hm
  have HLl := Lib.hid (show (letL k P).length ≤ nl by rw [← H.rl.len]; exact List.length_filter_le _ _)
  have CL := Lib.hid (rlet K k _ hK H ho hz)
  clear H ho hK hm
  go_enter Try.func16, Try.ntmps16
  go_wp2_with fail
  refine CL.out.mono ?_
  rintro e w2 ⟨rfl, ql', nl', cl', hy, hs⟩
  have HY := Lib.hid hy
  have HSt := Lib.hid hs
  have hN2 := HY.out.rl.len
  have CF := Lib.hid (rfind K k w2 HKh.out HY.out (by have := HLl.out; omega))
  have HN := Lib.hid hN2
  clear hy hs CL hN2
  go_wp2_with fail
  refine CF.out.mono ?_
  rintro e w3 ⟨⟨r, rfl, hr⟩, rfl⟩
  rcases find_look HO.out hr with ⟨rfl, hlk, -⟩ | ⟨i, hi, rfl, hk, hlk⟩
  · have HE := Lib.hid (show (lookE k (letL k P)).isSome = false by rw [hlk]; rfl)
    have HP := Lib.hid (show dueP k at_ on t P = letL k P by unfold dueP; rw [hlk]; rfl)
    have HC := Lib.hid (show dueC k P (cntL Q) = cntL Q by unfold dueC; rw [hlk]; rfl)
    clear hr hlk
    go_wp2_with fail
    go_ret
    exact ⟨ret_bool HE.out.symm, ql', nl', cl', _, _, _, _, by rw [HP.out]; exact HY.out, HSt.out, fun x => by rw [HC.out], lenP_refl _ _⟩
  · have HPe := Lib.hid (let_there HO0.out hlk)
    have HE := Lib.hid (show (lookE k (letL k P)).isSome = true by rw [hlk]; rfl)
    have HP := Lib.hid (show dueP k at_ on t P = (if on = true ∧ at_ ≤ (t : Int) then rm k P else up k (dueE at_ on) P) by unfold dueP; rw [hlk]; rfl)
    have HC := Lib.hid (show dueC k P (cntL Q) = cnt k (cntL Q) by unfold dueC; rw [hlk]; rfl)
    have HY2 := Lib.hid (show YR w3 y ql' nl' cl' qc nc cc P Q t by have h := HY.out; rwa [HPe.out] at h)
    have hi' : i < P.length := by rw [← HPe.out]; exact hi
    have hk' : P[i].key = k := by
      have h := hk
      simp only [HPe.out] at h
      exact h
    have HNp := Lib.hid (show P.length = nl' from HY2.out.rl.len)
    have CC := Lib.hid (rcount K k w3 HKh.out HY2.out hzc HM.out)
    have hzl : nl' ≤ 1000000 := by have := HLl.out; have := HN.out; omega
    clear hr hlk hk hi HN HY CF
    have hi0 : (0 : Int) ≤ (i : Int) := by omega
    have hi1 : (i : Int) < (nl' : Int) := by have := HNp.out; omega
    go_wp2_with fail
    refine CC.out.mono ?_
    rintro e w4 ⟨rfl, qc', nc', cc', Q', hy4, hs4, hc4, hl4⟩
    have HY4 := Lib.hid hy4
    have HS4 := Lib.hid (HSt.out.trans hs4)
    have HC4 := Lib.hid hc4
    have HL4 := Lib.hid hl4
    clear hy4 hs4 hc4 hl4 CC HY2 HSt
    obtain ⟨c0, c1, c2⟩ := yr_cells HY4.out
    cases on with
    | true =>
      by_cases hat : at_ ≤ (t : Int)
      · have d1 : decide (at_ ≤ (t : Int)) = true := decide_eq_true hat
        have HPr := Lib.hid (show dueP k at_ true t P = P.take i ++ P.drop (i + 1) by rw [HP.out, if_pos ⟨rfl, hat⟩, rm_at HO0.out hi' hk'])
        have CD := Lib.hid (rdrop i w4 (by omega) HY4.out hzl)
        clear hk'
        go_wp2_with fail
        refine CD.out.mono ?_
        rintro e w5 ⟨rfl, ql5, nl5, cl5, hy5, hs5⟩
        have HY5 := Lib.hid hy5
        have HS5 := Lib.hid (HS4.out.trans hs5)
        clear hy5 hs5
        go_wp2_with fail
        go_ret
        exact ⟨ret_bool HE.out.symm, ql5, nl5, cl5, qc', nc', cc', Q', by rw [HPr.out]; exact HY5.out, HS5.out, fun x => by rw [HC.out]; exact HC4.out x, HL4.out⟩
      · have d1 : decide (at_ ≤ (t : Int)) = false := decide_eq_false hat
        have HPr := Lib.hid (show dueP k at_ true t P = P.set i (dueE at_ true P[i]) by rw [HP.out, if_neg (fun h => hat h.2), up_at HO0.out _ hi' hk'])
        obtain ⟨g, hg⟩ := some_row HY4.out hi'
        subst hg
        obtain ⟨⟨-, -, -, -, -, -, u6, u7, -⟩, hfz⟩ := yr_room HY4.out i hi'
        have f6 := hfz (i * 9 + 6)
        have f7 := hfz (i * 9 + 7)
        have hyg : ¬ y = g := fun e => HY4.out.yl _ rfl e.symm
        have hgy : ¬ g = y := fun e => HY4.out.yl _ rfl e
        have e1 := yr_entry HY4.out i 7 { P[i] with on := true } (.bool true) hi' (by decide) rfl
        have e2 := yr_entry e1.1 i 6 { P[i] with on := true, due := 0 } (.int .i64 0) (by rw [List.length_set]; exact hi') (by decide) (by simp [enE])
        have e3 := yr_entry e2.1 i 6 (dueE at_ true P[i]) (.int .i64 at_) (by rw [List.length_set, List.length_set]; exact hi') (by decide) (by simp [enE, dueE])
        have HF := Lib.hid e3.1
        have HSf := Lib.hid (((HS4.out.trans e1.2).trans e2.2).trans e3.2)
        have HLs := Lib.hid (show ((P.set i { P[i] with on := true }).set i { P[i] with on := true, due := 0 }).set i (dueE at_ true P[i]) = P.set i (dueE at_ true P[i]) by rw [List.set_set, List.set_set])
        clear e1 e2 e3 hk' hfz
        generalize P[i].due = du at u6
        generalize P[i].on = oo at u7
        go_wp2_with fail
        go_ret
        exact ⟨ret_bool HE.out.symm, _, nl', cl', qc', nc', cc', Q', by rw [HPr.out, ← HLs.out]; exact HF.out, HSf.out, fun x => by rw [HC.out]; exact HC4.out x, HL4.out⟩
    | false =>
      have HPr := Lib.hid (show dueP k at_ false t P = P.set i (dueE at_ false P[i]) by rw [HP.out, if_neg (fun h => by cases h.1), up_at HO0.out _ hi' hk'])
      obtain ⟨g, hg⟩ := some_row HY4.out hi'
      subst hg
      obtain ⟨⟨-, -, -, -, -, -, u6, u7, -⟩, hfz⟩ := yr_room HY4.out i hi'
      have f6 := hfz (i * 9 + 6)
      have f7 := hfz (i * 9 + 7)
      have hyg : ¬ y = g := fun e => HY4.out.yl _ rfl e.symm
      have hgy : ¬ g = y := fun e => HY4.out.yl _ rfl e
      have e1 := yr_entry HY4.out i 7 { P[i] with on := false } (.bool false) hi' (by decide) rfl
      have e2 := yr_entry e1.1 i 6 (dueE at_ false P[i]) (.int .i64 0) (by rw [List.length_set]; exact hi') (by decide) (by simp [enE, dueE])
      have HF := Lib.hid e2.1
      have HSf := Lib.hid ((HS4.out.trans e1.2).trans e2.2)
      have HLs := Lib.hid (show (P.set i { P[i] with on := false }).set i (dueE at_ false P[i]) = P.set i (dueE at_ false P[i]) by rw [List.set_set])
      clear e1 e2 hk' hfz
      generalize P[i].due = du at u6
      generalize P[i].on = oo at u7
      go_wp2_with fail
      go_ret
      exact ⟨ret_bool HE.out.symm, _, nl', cl', qc', nc', cc', Q', by rw [HPr.out, ← HLs.out]; exact HF.out, HSf.out, fun x => by rw [HC.out]; exact HC4.out x, HL4.out⟩

end Go.Proofs.Ytbcjgkedlapmhaa.RefY
