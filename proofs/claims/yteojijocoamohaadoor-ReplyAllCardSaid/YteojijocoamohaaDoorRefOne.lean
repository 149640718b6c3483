/-
  What the document's own answers of layer 5 take as the beginning of a reply (package tipstaffref05, 'one').
-/
import Derived.Test.YteojijocoamohaaDoorRefLine
import Derived.Laws.Strings2
import Derived.Lib.IndexBytes
namespace Go.Proofs.YteojijocoamohaaDoor.RefR
open Go.RowKit Kit BytesIn ReplyMath ReplyT NumMath NumL
set_option linter.unusedVariables false
set_option maxRecDepth 100000

/-- Where the reply's beginning ends, and how many more follow; there are none of more than so many. -/
def OneIs (n : Nat) (o : Option (List UInt8 × Nat)) (e : Ending) : Prop :=
  match o with
  | some (r, m) => if m ≤ n then e = .returned (.tuple #[.int .i64 ((n : Int) - r.length), .int .i64 (m : Int)]) else e = .returned (.tuple #[.int .i64 (-1), .int .i64 0])
  | none => e = .returned (.tuple #[.int .i64 (-1), .int .i64 0])
theorem oneIs_no {n : Nat} {o : Option (List UInt8 × Nat)} (h : o = none) : OneIs n o (.returned (.tuple #[.int .i64 (-1), .int .i64 0])) := by rw [h]; rfl
theorem oneIs_yes {n : Nat} {o : Option (List UInt8 × Nat)} {r : List UInt8} {m : Nat} (h : o = some (r, m)) (hm : m ≤ n) (x y : Int) (hx : x = (n : Int) - r.length) (hy : y = m) : OneIs n o (.returned (.tuple #[.int .i64 x, .int .i64 y])) := by
  subst h hx hy
  show ite _ _ _
  rw [if_pos hm]
theorem oneIs_far {n : Nat} {o : Option (List UInt8 × Nat)} {r : List UInt8} {m : Nat} (h : o = some (r, m)) (hm : ¬ m ≤ n) : OneIs n o (.returned (.tuple #[.int .i64 (-1), .int .i64 0])) := by
  subst h
  show ite _ _ _
  rw [if_neg hm]

theorem kind_line {k : UInt8} (h : k = 43 ∨ k = 45) (t r : List UInt8) : kind k t r = if clean t = true then some (r, 0) else none := by unfold kind; rw [if_pos h]
theorem kind_int (t r : List UInt8) : kind 58 t r = if pB t = true then some (r, 0) else none := rfl
theorem kind_bulk (t r : List UInt8) : kind 36 t r = (parse t).bind fun n => bulkOf n r := rfl
theorem kind_arr (t r : List UInt8) : kind 42 t r = (parse t).bind fun n => arrOf n r := rfl
theorem kind_other {k : UInt8} (h : k ≠ 43 ∧ k ≠ 45 ∧ k ≠ 58 ∧ k ≠ 36 ∧ k ≠ 42) (t r : List UInt8) : kind k t r = none := by simp [kind, h]
theorem parse_pB {t : List UInt8} (h : pB t = true) : parse t = some (pV t) := by
  unfold pB at h
  unfold pV
  cases hp : parse t with
  | none => rw [hp] at h; cases h
  | some n => rfl
theorem parse_no {t : List UInt8} (h : pB t = false) : parse t = none := by
  unfold pB at h
  cases hp : parse t with
  | none => rfl
  | some n => rw [hp] at h; cases h
theorem pV_in (t : List UInt8) : -9223372036854775808 ≤ pV t ∧ pV t ≤ 9223372036854775807 := by
  unfold pV
  cases hp : parse t with
  | none => exact ⟨by decide, by decide⟩
  | some n => exact (parse_some hp).2
theorem bulk_minus (r : List UInt8) : bulkOf (-1) r = some (r, 0) := rfl
theorem bulk_neg {n : Int} (h : n < 0) (h1 : n ≠ -1) (r : List UInt8) : bulkOf n r = none := by
  unfold bulkOf
  rw [if_neg h1, if_neg (fun hh => by omega)]
theorem bulk_short {n : Nat} {r : List UInt8} (h : r.length < n + 2) : bulkOf (n : Int) r = none := by
  unfold bulkOf
  rw [if_neg (by omega), if_neg]
  rintro ⟨-, hh⟩
  have := congrArg List.length hh
  rw [List.length_take, List.length_drop, Int.toNat_natCast] at this
  simp at this
  omega
theorem two_of {r : List UInt8} {n : Nat} (h : n + 2 ≤ r.length) : (r.drop n).take 2 = [r[n], r[n + 1]] := by
  rw [List.drop_eq_getElem_cons (show n < r.length by omega), List.drop_eq_getElem_cons (show n + 1 < r.length by omega)]
  rfl
theorem bulk_hit {n : Nat} {r : List UInt8} (h : n + 2 ≤ r.length) (h1 : r[n] = 13) (h2 : r[n + 1] = 10) : bulkOf (n : Int) r = some (r.drop (n + 2), 0) := by
  unfold bulkOf
  rw [if_neg (by omega), if_pos ⟨by omega, by rw [Int.toNat_natCast, two_of h, h1, h2]⟩, Int.toNat_natCast]
theorem bulk_miss {n : Nat} {r : List UInt8} (h : n + 2 ≤ r.length) (hne : ¬ (r[n] = 13 ∧ r[n + 1] = 10)) : bulkOf (n : Int) r = none := by
  unfold bulkOf
  rw [if_neg (by omega), if_neg]
  rintro ⟨-, hh⟩
  rw [Int.toNat_natCast, two_of h] at hh
  injection hh with e1 e2
  injection e2 with e2
  exact hne ⟨e1, e2⟩
theorem arr_minus (r : List UInt8) : arrOf (-1) r = some (r, 0) := rfl
theorem arr_neg {n : Int} (h : n < 0) (h1 : n ≠ -1) (r : List UInt8) : arrOf n r = none := by
  unfold arrOf
  rw [if_neg h1, if_neg (by omega)]
theorem arr_some (n : Nat) (r : List UInt8) : arrOf (n : Int) r = some (r, n) := by
  unfold arrOf
  rw [if_neg (by omega), if_pos (by omega), Int.toNat_natCast]
theorem idx_zero (S : ByteArray) (k : UInt8) (t : List UInt8) (h : S.data.toList = k :: t) (W : World) : (Instr.index 9 (.string S) (.int .i64 0)).run Tryd.prog W = .ok (.int .u8 (k.toNat : Int)) W := by
  have hsz : 0 < S.size := by have := congrArg List.length h; simp at this; omega
  have hk : S[0] = k := by
    have h1 : S.data.toList[0]? = some k := by rw [h]; rfl
    have h2 : S.data.toList[0]? = some S[0] := by rw [List.getElem?_eq_getElem (by simpa using hsz)]; rfl
    rw [h1] at h2
    exact (Option.some.inj h2).symm
  rw [run_index_string _ _ _ _ _ Tryd.underlying9, dif_pos ⟨by omega, by omega⟩]
  simp only [Int.toNat_zero, hk]
theorem byte_ne {c d : UInt8} (h : c ≠ d) : ((c.toNat : Int) == (d.toNat : Int)) = false := by
  have : c.toNat ≠ d.toNat := fun h' => h (UInt8.toNat_inj.1 h')
  rw [beq_eq_false_iff_ne]
  omega

/-- The line's own answers, once it is known. -/
theorem rline_is (p : Option Addr) (l : List UInt8) (n c st X : Nat) (a r : List UInt8) (S : ByteArray) (w : World) (hn : l.length = n) (hb : Bs w p l) (hc : n ≤ c) (hcm : c ≤ 9223372036854775807) (hz : n ≤ 1048576) (hst : st ≤ n)
    (hcut : cutE (l.drop st) = some (a, r)) (hS : S = ⟨a.toArray⟩) (hX : X + r.length = n) :
    Calls Tryd.prog 40 #[.slice p n c, .int .i64 (st : Int)] w fun e w' => e = .returned (.tuple #[.string S, .int .i64 (X : Int)]) ∧ w' = w := by
  refine (rline p l n c st w hn hb hc hcm hz hst).mono ?_
  rintro e w' ⟨he, hw⟩
  rw [hcut] at he
  refine ⟨?_, hw⟩
  rw [he, hS, show (n : Int) - (r.length : Int) = (X : Int) by omega]
theorem rline_no (p : Option Addr) (l : List UInt8) (n c st : Nat) (w : World) (hn : l.length = n) (hb : Bs w p l) (hc : n ≤ c) (hcm : c ≤ 9223372036854775807) (hz : n ≤ 1048576) (hst : st ≤ n)
    (hcut : cutE (l.drop st) = none) :
    Calls Tryd.prog 40 #[.slice p n c, .int .i64 (st : Int)] w fun e w' => e = .returned (.tuple #[.string ⟨#[]⟩, .int .i64 (-1)]) ∧ w' = w := by
  refine (rline p l n c st w hn hb hc hcm hz hst).mono ?_
  rintro e w' ⟨he, hw⟩
  rw [hcut] at he
  exact ⟨he, hw⟩

set_option maxHeartbeats 4000000 in
theorem rone (p : Option Addr) (l : List UInt8) (n c st : Nat) (w : World) (hn : l.length = n) (hb : Bs w p l) (hc : n ≤ c) (hcm : c ≤ 9223372036854775807) (hz : n ≤ 1048576) (hst : st ≤ n) :
    Calls Tryd.prog 31 #[.slice p n c, .int .i64 (st : Int)] w fun e w' => OneIs n (one (l.drop st)) e ∧ Below w.heap.size w w' := by
  rcases hcut : cutE (l.drop st) with _ | ⟨a, r⟩
  · have C := Lib.hid (rline_no p l n c st w hn hb hc hcm hz hst hcut)
    have HO := Lib.hid (show one (l.drop st) = none by unfold one; rw [hcut]; rfl)
    clear hb hn hcut
    go_enter Tryd.func31, Tryd.ntmps31
    go_wp2_with fail
    refine C.out.mono ?_
    rintro e w' ⟨rfl, rfl⟩
    go_wp2_with fail
    go_ret2
    exact ⟨oneIs_no HO.out, Below.refl _ _⟩
  obtain ⟨hsplit, -⟩ := cutE_some _ _ _ hcut
  have hlen := congrArg List.length hsplit
  rw [List.length_drop, List.length_append, List.length_cons, List.length_cons, hn] at hlen
  obtain ⟨X, hX⟩ : ∃ X, X + r.length = n := ⟨n - r.length, by omega⟩
  rcases a with _ | ⟨k, t⟩
  · have C := Lib.hid (rline_is p l n c st X [] r ⟨#[]⟩ w hn hb hc hcm hz hst hcut rfl hX)
    have HO := Lib.hid (show one (l.drop st) = none by unfold one; rw [hcut]; rfl)
    have d1 : decide ((X : Int) < 0) = false := decide_eq_false (by omega)
    clear hb hn hcut hsplit hlen
    go_enter Tryd.func31, Tryd.ntmps31
    go_wp2_with fail
    refine C.out.mono ?_
    rintro e w' ⟨rfl, rfl⟩
    go_wp2_with fail
    go_ret2
    exact ⟨oneIs_no HO.out, Below.refl _ _⟩
  obtain ⟨S, hS⟩ : ∃ S : ByteArray, S = ⟨(k :: t).toArray⟩ := ⟨_, rfl⟩
  obtain ⟨T, hT⟩ : ∃ T : ByteArray, T = ⟨t.toArray⟩ := ⟨_, rfl⟩
  have C := Lib.hid (rline_is p l n c st X (k :: t) r S w hn hb hc hcm hz hst hcut hS hX)
  have hSL : S.data.toList = k :: t := by rw [hS]
  have hSz : S.size = t.length + 1 := by rw [hS, size_bytes]; rfl
  simp only [List.length_cons] at hlen
  have HO := Lib.hid (show one (l.drop st) = kind k t r by unfold one; rw [hcut]; rfl)
  have HR := Lib.hid (show r = l.drop X by
    have h := congrArg (List.drop (X - st)) hsplit
    rw [List.drop_drop, show st + (X - st) = X by omega] at h
    rw [h, show k :: t ++ 13 :: 10 :: r = (k :: t ++ [13, 10]) ++ r by simp, List.drop_left' (by simp; omega)])
  have CP := Lib.hid (show Calls Tryd.prog 41 #[.string T] w (fun e w' => e = .returned (.tuple #[.int .i64 (pV t), .bool (pB t)]) ∧ Below w.heap.size w w') by
    have h := Ref01.parse_ref T w (by rw [hT, size_bytes]; omega)
    rw [hT] at h ⊢
    exact h)
  have s1 : ∀ W, (Instr.slice 9 (.string S) (some (.int .i64 1)) none none).run Tryd.prog W = .ok (.string T) W := fun W => by
    have h := run_slice_string_l (P := Tryd.prog) W 9 S Tryd.underlying9 .i64 1 (by omega) (by omega)
    rw [show S.extract (1 : Int).toNat S.size = T by
      apply same_bytes
      rw [Lib.extract_to_end, hSL, hT]
      rfl] at h
    exact h
  have i1 := idx_zero S k t hSL
  have HN := Lib.hid hn
  have HB := Lib.hid hb
  have HSL := Lib.hid hSL
  have d1 : decide ((X : Int) < 0) = false := decide_eq_false (by omega)
  have d2 : ((S.size : Int) == 0) = false := by rw [beq_eq_false_iff_ne]; omega
  have hz0 : S.size ≤ 1048576 := by omega
  have hXn : X ≤ n := by omega
  have hrl : (n : Int) - (r.length : Int) = (X : Int) := by omega
  have HXR := Lib.hid hX
  have HRL := Lib.hid hrl
  clear hb hn hcut hsplit hlen hS hT hSL hSz hX hrl
  obtain ⟨v, hv⟩ : ∃ v, v = pV t := ⟨_, rfl⟩
  obtain ⟨u, hu⟩ : ∃ u, u = pB t := ⟨_, rfl⟩
  have hv0 : -9223372036854775808 ≤ v ∧ v ≤ 9223372036854775807 := by rw [hv]; exact pV_in t
  have HP := Lib.hid (show ∀ b, u = b → if b = true then parse t = some v else parse t = none by
    rintro b rfl
    rw [hu, hv]
    split
    · rename_i h; exact parse_pB h
    · rename_i h; exact parse_no (by simpa using h))
  have HU := Lib.hid (show pB t = u from hu.symm)
  rw [← hv, ← hu] at CP
  clear hv hu
  by_cases k1 : k = 43 ∨ k = 45
  · have CC := Lib.hid (rclean S)
    have HC := Lib.hid (show clean S.data.toList = clean t by rw [HSL.out]; rcases k1 with rfl | rfl <;> rfl)
    have HK := Lib.hid (kind_line k1 t r)
    cases hcl : clean t
    · have HF := Lib.hid (show one (l.drop st) = none by rw [HO.out, HK.out, hcl]; rfl)
      rw [hcl] at HC
      clear HK hcl HP HU HR
      rcases k1 with rfl | rfl
      all_goals
        go_enter Tryd.func31, Tryd.ntmps31
        go_wp2_with fail
        refine C.out.mono ?_
        rintro e w' ⟨rfl, rfl⟩
        go_wp2_with fail
        refine CP.out.mono ?_
        rintro e w1 ⟨rfl, hb1⟩
        go_wp2_with fail
        refine (CC.out _ hz0).mono ?_
        rw [HC.out]
        rintro e w' ⟨rfl, rfl⟩
        go_wp2_with fail
        go_ret2
        exact ⟨oneIs_no HF.out, hb1⟩
    · have HF := Lib.hid (show one (l.drop st) = some (r, 0) by rw [HO.out, HK.out, hcl]; rfl)
      rw [hcl] at HC
      clear HK hcl HP HU HR
      rcases k1 with rfl | rfl
      all_goals
        go_enter Tryd.func31, Tryd.ntmps31
        go_wp2_with fail
        refine C.out.mono ?_
        rintro e w' ⟨rfl, rfl⟩
        go_wp2_with fail
        refine CP.out.mono ?_
        rintro e w1 ⟨rfl, hb1⟩
        go_wp2_with fail
        refine (CC.out _ hz0).mono ?_
        rw [HC.out]
        rintro e w' ⟨rfl, rfl⟩
        go_wp2_with fail
        go_ret2
        exact ⟨oneIs_yes HF.out (Nat.zero_le _) _ _ HRL.out.symm rfl, hb1⟩
  simp only [not_or] at k1
  have t1 : ((k.toNat : Int) == 43) = false := byte_ne k1.1
  have t2 : ((k.toNat : Int) == 45) = false := byte_ne k1.2
  by_cases k2 : k = 58
  · subst k2
    have HK := Lib.hid (kind_int t r)
    cases u
    · have HF := Lib.hid (show one (l.drop st) = none by rw [HO.out, HK.out, HU.out]; rfl)
      clear HK HP HU HR
      go_enter Tryd.func31, Tryd.ntmps31
      go_wp2_with fail
      refine C.out.mono ?_
      rintro e w' ⟨rfl, rfl⟩
      go_wp2_with fail
      refine CP.out.mono ?_
      rintro e w1 ⟨rfl, hb1⟩
      go_wp2_with fail
      go_ret2
      exact ⟨oneIs_no HF.out, hb1⟩
    · have HF := Lib.hid (show one (l.drop st) = some (r, 0) by rw [HO.out, HK.out, HU.out]; rfl)
      clear HK HP HU HR
      go_enter Tryd.func31, Tryd.ntmps31
      go_wp2_with fail
      refine C.out.mono ?_
      rintro e w' ⟨rfl, rfl⟩
      go_wp2_with fail
      refine CP.out.mono ?_
      rintro e w1 ⟨rfl, hb1⟩
      go_wp2_with fail
      go_ret2
      exact ⟨oneIs_yes HF.out (Nat.zero_le _) _ _ HRL.out.symm rfl, hb1⟩
  have t3 : ((k.toNat : Int) == 58) = false := byte_ne k2
  by_cases k3 : k = 36
  · subst k3
    have HK := Lib.hid (kind_bulk t r)
    cases u
    · have HQ := Lib.hid (HP.out false rfl)
      have HF := Lib.hid (show one (l.drop st) = none by rw [HO.out, HK.out, show parse t = none from HQ.out]; rfl)
      clear HK HP HU HR HQ
      go_enter Tryd.func31, Tryd.ntmps31
      go_wp2_with fail
      refine C.out.mono ?_
      rintro e w' ⟨rfl, rfl⟩
      go_wp2_with fail
      refine CP.out.mono ?_
      rintro e w1 ⟨rfl, hb1⟩
      go_wp2_with fail
      go_ret2
      exact ⟨oneIs_no HF.out, hb1⟩
    have HQ := Lib.hid (show parse t = some v from HP.out true rfl)
    by_cases hm1 : v = -1
    · subst hm1
      have HF := Lib.hid (show one (l.drop st) = some (r, 0) by rw [HO.out, HK.out, HQ.out]; rfl)
      clear HK HP HU HR HQ
      go_enter Tryd.func31, Tryd.ntmps31
      go_wp2_with fail
      refine C.out.mono ?_
      rintro e w' ⟨rfl, rfl⟩
      go_wp2_with fail
      refine CP.out.mono ?_
      rintro e w1 ⟨rfl, hb1⟩
      go_wp2_with fail
      go_ret2
      exact ⟨oneIs_yes HF.out (Nat.zero_le _) _ _ HRL.out.symm rfl, hb1⟩
    have g1 : (v == -1) = false := by rw [beq_eq_false_iff_ne]; exact hm1
    by_cases hneg : v < 0
    · have g2 : decide (0 ≤ v) = false := decide_eq_false (by omega)
      have HF := Lib.hid (show one (l.drop st) = none by rw [HO.out, HK.out, HQ.out]; exact bulk_neg hneg hm1 r)
      clear HK HP HU HR HQ
      go_enter Tryd.func31, Tryd.ntmps31
      go_wp2_with fail
      refine C.out.mono ?_
      rintro e w' ⟨rfl, rfl⟩
      go_wp2_with fail
      refine CP.out.mono ?_
      rintro e w1 ⟨rfl, hb1⟩
      go_wp2_with fail
      go_ret2
      exact ⟨oneIs_no HF.out, hb1⟩
    obtain ⟨m, rfl⟩ : ∃ m : Nat, v = (m : Int) := ⟨v.toNat, by omega⟩
    have g2 : decide ((0 : Int) ≤ (m : Int)) = true := decide_eq_true (by omega)
    have e1 : IntKind.i64.wrap ((n : Int) - (X : Int)) = (n : Int) - (X : Int) := IntWalk.i64_in _ (by omega)
    have e2 : IntKind.i64.wrap ((n : Int) - (X : Int) - 2) = (n : Int) - (X : Int) - 2 := IntWalk.i64_in _ (by omega)
    by_cases hfit : m + 2 ≤ r.length
    · have hx := HXR.out
      have g3 : decide ((m : Int) ≤ (n : Int) - (X : Int) - 2) = true := decide_eq_true (by omega)
      have e3 : IntKind.i64.wrap ((X : Int) + (m : Int)) = (X : Int) + (m : Int) := IntWalk.i64_in _ (by omega)
      have e4 : IntKind.i64.wrap ((X : Int) + (m : Int) + 1) = (X : Int) + (m : Int) + 1 := IntWalk.i64_in _ (by omega)
      have e5 : IntKind.i64.wrap ((X : Int) + (m : Int) + 2) = (X : Int) + (m : Int) + 2 := IntWalk.i64_in _ (by omega)
      have hmn : X + m + 1 < n := by omega
      have hl0 : X + m + 1 < l.length := by rw [HN.out]; exact hmn
      obtain ⟨b, off, rfl, hlb, hcell⟩ := HB.out (by omega)
      have c0 := hcell (X + m) (by omega)
      have c1 := hcell (X + m + 1) hl0
      obtain ⟨x, hxv⟩ : ∃ x, x = l[X + m]'(by omega) := ⟨_, rfl⟩
      obtain ⟨y, hyv⟩ : ∃ y, y = l[X + m + 1] := ⟨_, rfl⟩
      rw [← hxv] at c0
      rw [← hyv] at c1
      have HX0 := Lib.hid (show r[m]'(by omega) = x by rw [hxv]; simp [HR.out])
      have HY0 := Lib.hid (show r[m + 1]'(by omega) = y by rw [hyv]; simp only [HR.out, List.getElem_drop, Nat.add_assoc])
      have HC0 := Lib.hid (fun W (h : Below w.heap.size w W) => (show W.cell? ⟨b, off + (X + m), none⟩ = some (.int .u8 (x.toNat : Int)) by rw [h.cell (p := ⟨b, off + (X + m), none⟩) hlb]; exact c0))
      have HC1 := Lib.hid (fun W (h : Below w.heap.size w W) => (show W.cell? ⟨b, off + (X + m + 1), none⟩ = some (.int .u8 (y.toNat : Int)) by rw [h.cell (p := ⟨b, off + (X + m + 1), none⟩) hlb]; exact c1))
      clear hxv hyv hcell c0 c1 hx
      have HFit := Lib.hid hfit
      by_cases h13 : x = 13
      · have g4 : ((x.toNat : Int) == 13) = true := by rw [h13]; rfl
        by_cases h10 : y = 10
        · have g5 : ((y.toNat : Int) == 10) = true := by rw [h10]; rfl
          have HF := Lib.hid (show one (l.drop st) = some (r.drop (m + 2), 0) by rw [HO.out, HK.out, HQ.out]; exact bulk_hit hfit (by rw [HX0.out, h13]) (by rw [HY0.out, h10]))
          have HRL2 := Lib.hid (show (X : Int) + (m : Int) + 2 = (n : Int) - ((r.drop (m + 2)).length : Int) by rw [List.length_drop]; have := HXR.out; have := HFit.out; omega)
          clear HK HP HU HR HQ
          go_enter Tryd.func31, Tryd.ntmps31
          go_wp2_with fail
          refine C.out.mono ?_
          rintro e w' ⟨rfl, rfl⟩
          go_wp2_with fail
          refine CP.out.mono ?_
          rintro e w1 ⟨rfl, hb1⟩
          have c0 := HC0.out w1 hb1
          have c1 := HC1.out w1 hb1
          go_wp2_with fail
          go_ret2
          exact ⟨oneIs_yes HF.out (Nat.zero_le _) _ _ HRL2.out rfl, hb1⟩
        · have g5 : ((y.toNat : Int) == 10) = false := byte_ne h10
          have HF := Lib.hid (show one (l.drop st) = none by rw [HO.out, HK.out, HQ.out]; exact bulk_miss hfit (fun h => h10 (by rw [← HY0.out]; exact h.2)))
          clear HK HP HU HR HQ
          go_enter Tryd.func31, Tryd.ntmps31
          go_wp2_with fail
          refine C.out.mono ?_
          rintro e w' ⟨rfl, rfl⟩
          go_wp2_with fail
          refine CP.out.mono ?_
          rintro e w1 ⟨rfl, hb1⟩
          have c0 := HC0.out w1 hb1
          have c1 := HC1.out w1 hb1
          go_wp2_with fail
          go_ret2
          exact ⟨oneIs_no HF.out, hb1⟩
      · have g4 : ((x.toNat : Int) == 13) = false := byte_ne h13
        have HF := Lib.hid (show one (l.drop st) = none by rw [HO.out, HK.out, HQ.out]; exact bulk_miss hfit (fun h => h13 (by rw [← HX0.out]; exact h.1)))
        clear HK HP HU HR HQ
        go_enter Tryd.func31, Tryd.ntmps31
        go_wp2_with fail
        refine C.out.mono ?_
        rintro e w' ⟨rfl, rfl⟩
        go_wp2_with fail
        refine CP.out.mono ?_
        rintro e w1 ⟨rfl, hb1⟩
        have c0 := HC0.out w1 hb1
        have c1 := HC1.out w1 hb1
        go_wp2_with fail
        go_ret2
        exact ⟨oneIs_no HF.out, hb1⟩
    · have hx := HXR.out
      have g3 : decide ((m : Int) ≤ (n : Int) - (X : Int) - 2) = false := decide_eq_false (by omega)
      have HF := Lib.hid (show one (l.drop st) = none by rw [HO.out, HK.out, HQ.out]; exact bulk_short (by omega))
      clear HK HP HU HR HQ hx
      go_enter Tryd.func31, Tryd.ntmps31
      go_wp2_with fail
      refine C.out.mono ?_
      rintro e w' ⟨rfl, rfl⟩
      go_wp2_with fail
      refine CP.out.mono ?_
      rintro e w1 ⟨rfl, hb1⟩
      go_wp2_with fail
      go_ret2
      exact ⟨oneIs_no HF.out, hb1⟩
  have t4 : ((k.toNat : Int) == 36) = false := byte_ne k3
  by_cases k4 : k = 42
  · subst k4
    have HK := Lib.hid (kind_arr t r)
    cases u
    · have HQ := Lib.hid (HP.out false rfl)
      have HF := Lib.hid (show one (l.drop st) = none by rw [HO.out, HK.out, show parse t = none from HQ.out]; rfl)
      clear HK HP HU HR HQ
      go_enter Tryd.func31, Tryd.ntmps31
      go_wp2_with fail
      refine C.out.mono ?_
      rintro e w' ⟨rfl, rfl⟩
      go_wp2_with fail
      refine CP.out.mono ?_
      rintro e w1 ⟨rfl, hb1⟩
      go_wp2_with fail
      go_ret2
      exact ⟨oneIs_no HF.out, hb1⟩
    have HQ := Lib.hid (show parse t = some v from HP.out true rfl)
    by_cases hm1 : v = -1
    · subst hm1
      have HF := Lib.hid (show one (l.drop st) = some (r, 0) by rw [HO.out, HK.out, HQ.out]; rfl)
      clear HK HP HU HR HQ
      go_enter Tryd.func31, Tryd.ntmps31
      go_wp2_with fail
      refine C.out.mono ?_
      rintro e w' ⟨rfl, rfl⟩
      go_wp2_with fail
      refine CP.out.mono ?_
      rintro e w1 ⟨rfl, hb1⟩
      go_wp2_with fail
      go_ret2
      exact ⟨oneIs_yes HF.out (Nat.zero_le _) _ _ HRL.out.symm rfl, hb1⟩
    have g1 : (v == -1) = false := by rw [beq_eq_false_iff_ne]; exact hm1
    by_cases hneg : v < 0
    · have g2 : decide (0 ≤ v) = false := decide_eq_false (by omega)
      have HF := Lib.hid (show one (l.drop st) = none by rw [HO.out, HK.out, HQ.out]; exact arr_neg hneg hm1 r)
      clear HK HP HU HR HQ
      go_enter Tryd.func31, Tryd.ntmps31
      go_wp2_with fail
      refine C.out.mono ?_
      rintro e w' ⟨rfl, rfl⟩
      go_wp2_with fail
      refine CP.out.mono ?_
      rintro e w1 ⟨rfl, hb1⟩
      go_wp2_with fail
      go_ret2
      exact ⟨oneIs_no HF.out, hb1⟩
    obtain ⟨m, rfl⟩ : ∃ m : Nat, v = (m : Int) := ⟨v.toNat, by omega⟩
    have g2 : decide ((0 : Int) ≤ (m : Int)) = true := decide_eq_true (by omega)
    have HF := Lib.hid (show one (l.drop st) = some (r, m) by rw [HO.out, HK.out, HQ.out]; exact arr_some m r)
    clear HK HP HU HR HQ
    by_cases hfit : m ≤ n
    · have g3 : decide ((m : Int) ≤ (n : Int)) = true := decide_eq_true (by omega)
      go_enter Tryd.func31, Tryd.ntmps31
      go_wp2_with fail
      refine C.out.mono ?_
      rintro e w' ⟨rfl, rfl⟩
      go_wp2_with fail
      refine CP.out.mono ?_
      rintro e w1 ⟨rfl, hb1⟩
      go_wp2_with fail
      go_ret2
      exact ⟨oneIs_yes HF.out hfit _ _ HRL.out.symm rfl, hb1⟩
    · have g3 : decide ((m : Int) ≤ (n : Int)) = false := decide_eq_false (by omega)
      go_enter Tryd.func31, Tryd.ntmps31
      go_wp2_with fail
      refine C.out.mono ?_
      rintro e w' ⟨rfl, rfl⟩
      go_wp2_with fail
      refine CP.out.mono ?_
      rintro e w1 ⟨rfl, hb1⟩
      go_wp2_with fail
      go_ret2
      exact ⟨oneIs_far HF.out hfit, hb1⟩
  have t5 : ((k.toNat : Int) == 42) = false := byte_ne k4
  have HF := Lib.hid (show one (l.drop st) = none by rw [HO.out]; exact kind_other ⟨k1.1, k1.2, k2, k3, k4⟩ t r)
  clear HP HU HR
  go_enter Tryd.func31, Tryd.ntmps31
  go_wp2_with fail
  refine C.out.mono ?_
  rintro e w' ⟨rfl, rfl⟩
  go_wp2_with fail
  refine CP.out.mono ?_
  rintro e w1 ⟨rfl, hb1⟩
  go_wp2_with fail
  go_ret2
  exact ⟨oneIs_no HF.out, hb1⟩

end Go.Proofs.YteojijocoamohaaDoor.RefR
