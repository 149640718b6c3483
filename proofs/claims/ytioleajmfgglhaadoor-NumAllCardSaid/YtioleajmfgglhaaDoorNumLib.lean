/-
  What num.Text, num.Parse and num.Part come to, over the library's contracts (laid at this program in YtioleajmfgglhaaDoorShelf).
-/
import Derived.Test.YtioleajmfgglhaaDoorChecked
import Derived.Test.YtioleajmfgglhaaDoorShelf
import Derived.Test.YtioleajmfgglhaaDoorKit
import Derived.Test.YtioleajmfgglhaaDoorNumMath
import Derived.Test.YtioleajmfgglhaaDoorNumWalks
import Derived.Lib.AtoiErrMem
namespace Go.Proofs.YtioleajmfgglhaaDoor.NumL
open Go.RowKit Kit NumMath NumW
open Go.Sort (grow)

theorem below_grow (w : World) (q : Nat) (os : Array Obj) : Below w.heap.size w (grow (w.drewN q) os) :=
  ⟨rfl, rfl, rfl, by show w.heap.size ≤ (w.heap ++ os).size; simp, fun k hk => by show (w.heap ++ os)[k]? = _; exact Array.getElem?_append_left hk⟩

/-- WHAT THE WORLD HOLDS OF THE LIBRARY: the table of powers of ten, and the two errors. -/
structure Gd (w : World) : Prop where
  tab : Lib.TabIs Tryd.prog w "internal/strconv.uint64pow10" .u64 Lib.pow10Tab
  syn : ∃ tp p, w.var? Tryd.prog "strconv.ErrSyntax" = some #[.iface tp p]
  rng : ∃ tp p, w.var? Tryd.prog "strconv.ErrRange" = some #[.iface tp p]
theorem Gd.keep {w w' : World} (h : Gd w) (hb : Below w.heap.size w w') : Gd w' := by
  obtain ⟨tp, p, h1⟩ := h.syn
  obtain ⟨tq, q, h2⟩ := h.rng
  exact ⟨var_keep hb h.tab, ⟨tp, p, var_keep hb h1⟩, ⟨tq, q, var_keep hb h2⟩⟩

theorem itoa_any (n : Int) (h0 : -9223372036854775808 ≤ n) (h1 : n ≤ 9223372036854775807) (w : World) (hg : Gd w) :
    Calls Tryd.prog 25 #[.int .i64 n] w fun e w' => e = .returned (.string ⟨(Lib.itoa n).toArray⟩) ∧ Below w.heap.size w w' :=
  (Tryd.strconv_Itoa n h0 h1 w hg.tab).mono fun e w' ⟨he, k, os, hw⟩ => ⟨he, by rw [hw]; exact below_grow _ _ _⟩

theorem text_any (n : Int) (h0 : -9223372036854775808 ≤ n) (h1 : n ≤ 9223372036854775807) (w : World) (hg : Gd w) :
    Calls Tryd.prog 16 #[.int .i64 n] w fun e w' => e = .returned (.string ⟨(Lib.itoa n).toArray⟩) ∧ Below w.heap.size w w' := by
  have c := fun W (h : Gd W) => itoa_any n h0 h1 W h
  have C := Lib.hid c
  have G := Lib.hid hg
  clear c hg
  go_enter Tryd.func16, Tryd.ntmps16
  go_wp2_with fail
  refine (C.out _ G.out).mono ?_
  rintro e w' ⟨rfl, hb⟩
  go_wp2
  go_ret
  exact ⟨rfl, hb⟩

/-- num.Parse's two results. -/
def pV (l : List UInt8) : Int := (parse l).getD 0
def pB (l : List UInt8) : Bool := (parse l).isSome

theorem parse_ok {l : List UInt8} {v : Int} (h : Lib.atoiAll l = .ok v) (he : Lib.itoa v = l) : pV l = v ∧ pB l = true := by
  have : parse l = some v := by unfold parse; rw [h]; simp [he]
  simp [pV, pB, this]
theorem parse_un {l : List UInt8} {v : Int} (h : Lib.atoiAll l = .ok v) (he : Lib.itoa v ≠ l) : pV l = 0 ∧ pB l = false := by
  have : parse l = none := by unfold parse; rw [h]; simp [he]
  simp [pV, pB, this]
theorem parse_bad {l : List UInt8} (h : ∀ v, Lib.atoiAll l ≠ .ok v) : pV l = 0 ∧ pB l = false := by
  have : parse l = none := by
    unfold parse
    split
    · rename_i v hv
      exact absurd hv (h v)
    · rfl
  simp [pV, pB, this]

/-- strconv.Atoi where it fails: some number, an error that is not nil, and nothing that was there has turned. -/
def AtoiFails (s : ByteArray) (W : World) : Prop :=
  Calls Tryd.prog 24 #[.string s] W fun e w' => ∃ (x : Int) (N : Nat), e = .returned (.tuple #[.int .i64 x, .iface 50 (.pointer (some ⟨N, 0, none⟩))]) ∧ Below W.heap.size W w'
theorem atoi_fails (s : ByteArray) (hlim : s.size ≤ 281474976710656) (h : ∀ v, Lib.atoiAll s.data.toList ≠ .ok v) (W : World) (hg : Gd W) : AtoiFails s W := by
  obtain ⟨tp, p, h1⟩ := hg.syn
  obtain ⟨tq, q, h2⟩ := hg.rng
  rcases hh : Lib.atoiAll s.data.toList with v | _ | _
  · exact absurd hh (h v)
  · exact (Any.strconv_Atoi_syntax_var Tryd.laysC172 s hlim hh tp p W h1).mono fun e w' ⟨N, he, _, _, hb⟩ => ⟨_, N, he, hb⟩
  · exact (Any.strconv_Atoi_range_var Tryd.laysC172 s hlim hh tq q W h2).mono fun e w' ⟨N, he, _, _, hb⟩ => ⟨_, N, he, hb⟩

theorem atoi_ok (s : ByteArray) (hlim : s.size ≤ 281474976710656) (v : Int) (h : Lib.atoiAll s.data.toList = .ok v) (w : World) :
    Calls Tryd.prog 24 #[.string s] w fun e w' => e = .returned (.tuple #[.int .i64 v, .nilIface]) ∧ Below w.heap.size w w' :=
  (Tryd.strconv_Atoi_ok s (by omega) v h w).mono fun e w' ⟨he, hw⟩ => ⟨he, by
    rcases hw with rfl | ⟨t, rfl⟩
    · exact Below.refl _ _
    · exact Kit.bytesWorld_below _ _ _⟩

theorem parse_any (s : ByteArray) (hlim : s.size ≤ 281474976710656) (w : World) (hg : Gd w) :
    Calls Tryd.prog 12 #[.string s] w fun e w' => e = .returned (.tuple #[.int .i64 (pV s.data.toList), .bool (pB s.data.toList)]) ∧ Below w.heap.size w w' := by
  by_cases hv : ∃ v, Lib.atoiAll s.data.toList = .ok v
  · obtain ⟨v, h⟩ := hv
    obtain ⟨v0, v1⟩ := Lib.atoiAll_bounds h
    have C := Lib.hid (atoi_ok s hlim v h)
    have T := Lib.hid (fun W (hW : Gd W) => text_any v v0 v1 W hW)
    have G := Lib.hid hg
    by_cases he : Lib.itoa v = s.data.toList
    · have H := Lib.hid (parse_ok h he)
      have hq : (Lib.itoa v == s.toList) = true := by rw [ByteArray.toList_eq, he]; simp
      clear h hg he
      go_enter Tryd.func12, Tryd.ntmps12
      go_wp2_with fail
      refine (C.out _).mono ?_
      rintro e w1 ⟨rfl, hb⟩
      go_wp2_with fail
      refine (T.out _ (G.out.keep hb)).mono ?_
      rintro e w2 ⟨rfl, hb2⟩
      go_wp2
      go_ret2
      exact ⟨ret_ib H.out.1.symm H.out.2.symm, hb.trans (hb2.mono hb.size)⟩
    · have H := Lib.hid (parse_un h he)
      have hq : (Lib.itoa v == s.toList) = false := by rw [ByteArray.toList_eq]; simp [he]
      clear h hg he
      go_enter Tryd.func12, Tryd.ntmps12
      go_wp2_with fail
      refine (C.out _).mono ?_
      rintro e w1 ⟨rfl, hb⟩
      go_wp2_with fail
      refine (T.out _ (G.out.keep hb)).mono ?_
      rintro e w2 ⟨rfl, hb2⟩
      go_wp2
      go_ret2
      exact ⟨ret_ib H.out.1.symm H.out.2.symm, hb.trans (hb2.mono hb.size)⟩
  · have hn : ∀ v, Lib.atoiAll s.data.toList ≠ .ok v := fun v h => hv ⟨v, h⟩
    have C := Lib.hid (fun W hW => atoi_fails s hlim hn W hW)
    have H := Lib.hid (parse_bad hn)
    have G := Lib.hid hg
    clear hn hg hv
    go_enter Tryd.func12, Tryd.ntmps12
    go_wp2_with fail
    refine (show Calls _ _ _ _ _ from C.out _ G.out).mono ?_
    rintro e w1 ⟨x, N, rfl, hb⟩
    go_wp2
    go_ret2
    exact ⟨ret_ib H.out.1.symm H.out.2.symm, hb⟩

/-- num.Part's three results, of what num.Parse says. -/
def partR (many x y : Int) (p q : Bool) : Int × Int × Bool :=
  match p, q with
  | true, true => if many ≤ 0 then (0, 0, true) else ((boundsI many x y).1, (boundsI many x y).2, true)
  | _, _ => (0, 0, false)
def partV (many : Int) (a b : List UInt8) : Int × Int × Bool := partR many (pV a) (pV b) (pB a) (pB b)

theorem pV_bounds (l : List UInt8) : -9223372036854775808 ≤ pV l ∧ pV l ≤ 9223372036854775807 := by
  unfold pV
  cases h : parse l with
  | none => simp
  | some n => exact (parse_some h).2

theorem boundsI_lt (many a b : Int) : (boundsI many a b).1 ≤ (boundsI many a b).2 ∧ 0 ≤ (boundsI many a b).1 ∧ (boundsI many a b).2 ≤ max 0 many := by
  unfold boundsI
  simp only
  split <;> simp only <;> omega

theorem part_core (many x y : Int) (p q : Bool) (a b : ByteArray) (hx0 : -9223372036854775808 ≤ x) (hx1 : x ≤ 9223372036854775807) (hy0 : -9223372036854775808 ≤ y) (hy1 : y ≤ 9223372036854775807) (hm0 : -9223372036854775808 ≤ many) (hm1 : many ≤ 9223372036854775807)
    (ca : ∀ W, Gd W → Calls Tryd.prog 12 #[.string a] W fun e w' => e = .returned (.tuple #[.int .i64 x, .bool p]) ∧ Below W.heap.size W w')
    (cb : ∀ W, Gd W → Calls Tryd.prog 12 #[.string b] W fun e w' => e = .returned (.tuple #[.int .i64 y, .bool q]) ∧ Below W.heap.size W w') (w : World) (hg : Gd w) :
    Calls Tryd.prog 22 #[.int .i64 many, .string a, .string b] w fun e w' =>
      e = .returned (.tuple #[.int .i64 (partR many x y p q).1, .int .i64 (partR many x y p q).2.1, .bool (partR many x y p q).2.2]) ∧ Below w.heap.size w w' := by
  have CA := Lib.hid ca
  have CB := Lib.hid cb
  have G := Lib.hid hg
  clear ca cb hg
  by_cases hm : many ≤ 0
  · cases p <;> cases q
    all_goals
      go_enter Tryd.func22, Tryd.ntmps22
      go_wp2_with fail
      refine (CA.out _ G.out).mono ?_
      rintro e w1 ⟨rfl, hb1⟩
      go_wp2_with fail
      refine (CB.out _ (G.out.keep hb1)).mono ?_
      rintro e w2 ⟨rfl, hb2⟩
      go_wp2
      go_ret3
      exact ⟨ret_iib (by simp [partR, hm]) (by simp [partR, hm]) (by simp [partR, hm]), hb1.trans (hb2.mono hb1.size)⟩
  · have CC := Lib.hid (fun W => bounds_any many x y W (by omega) hm1 hx0 hx1 hy0 hy1)
    cases p <;> cases q
    all_goals
      go_enter Tryd.func22, Tryd.ntmps22
      go_wp2_with fail
      refine (CA.out _ G.out).mono ?_
      rintro e w1 ⟨rfl, hb1⟩
      go_wp2_with fail
      refine (CB.out _ (G.out.keep hb1)).mono ?_
      rintro e w2 ⟨rfl, hb2⟩
      go_wp2_with (go_at_call 26; refine (CC.out _).mono ?_; rintro e w3 ⟨rfl, rfl⟩)
      go_ret3
      have hm' : ¬ many ≤ 0 := by omega
      exact ⟨ret_iib (by simp [partR, hm']) (by simp [partR, hm']) (by simp [partR, hm']), hb1.trans (hb2.mono hb1.size)⟩

theorem part_any (many : Int) (a b : ByteArray) (ha : a.size ≤ 281474976710656) (hb : b.size ≤ 281474976710656) (hm0 : -9223372036854775808 ≤ many) (hm1 : many ≤ 9223372036854775807) (w : World) (hg : Gd w) :
    Calls Tryd.prog 22 #[.int .i64 many, .string a, .string b] w fun e w' =>
      e = .returned (.tuple #[.int .i64 (partV many a.data.toList b.data.toList).1, .int .i64 (partV many a.data.toList b.data.toList).2.1, .bool (partV many a.data.toList b.data.toList).2.2]) ∧ Below w.heap.size w w' :=
  part_core many _ _ _ _ a b (pV_bounds _).1 (pV_bounds _).2 (pV_bounds _).1 (pV_bounds _).2 hm0 hm1 (fun W hW => parse_any a ha W hW) (fun W hW => parse_any b hb W hW) w hg

/-- The laws' own 'short': a text of 60 bytes at most. -/
def shortS (s : ByteArray) : ByteArray := if 60 < s.size then s.extract 0 60 else s
theorem shortS_size (s : ByteArray) : (shortS s).size ≤ 60 := by
  unfold shortS
  split
  · rw [ByteArray.size_extract]; omega
  · omega
theorem short_any (s : ByteArray) (w : World) (hs : s.size ≤ 140737488351232) :
    Calls Tryd.prog 11 #[.string s] w fun e w' => e = .returned (.string (shortS s)) ∧ w = w' := by
  by_cases h : 60 < s.size
  · have H := Lib.hid (show shortS s = s.extract 0 60 from if_pos h)
    go_enter Tryd.func11, Tryd.ntmps11
    go_wp2
    go_ret
    exact ⟨ret_str H.out.symm, rfl⟩
  · have H := Lib.hid (show shortS s = s from if_neg h)
    go_enter Tryd.func11, Tryd.ntmps11
    go_wp2
    go_ret
    exact ⟨ret_str H.out.symm, rfl⟩

/-- What every law of layer 1 shows first: the document's examples. -/
theorem shown_any (w : World) (hg : Gd w) : Calls Tryd.prog 10 #[] w fun e w' => e = .returned (.bool true) ∧ Below w.heap.size w w' := by
  have C1 := Lib.hid (fun W (hW : Gd W) => parse_any ⟨#[45, 48]⟩ (by decide) W hW)
  have C2 := Lib.hid (fun W (hW : Gd W) => parse_any ⟨#[48, 48, 55]⟩ (by decide) W hW)
  have C3 := Lib.hid (fun W (hW : Gd W) => parse_any ⟨#[45, 55]⟩ (by decide) W hW)
  have C4 := Lib.hid (fun W => lower_any ⟨#[97, 66, 49]⟩ W (by decide))
  have e1 : pB [45, 48] = false := by decide +kernel
  have e2 : pB [48, 48, 55] = false := by decide +kernel
  have e3 : pB [45, 55] = true := by decide +kernel
  have e4 : pV [45, 55] = -7 := by decide +kernel
  have G := Lib.hid hg
  clear hg
  have E := Lib.hid e1
  have E2 := Lib.hid e2
  have E3 := Lib.hid e3
  have E4 := Lib.hid e4
  clear e1 e2 e3 e4
  go_enter Tryd.func10, Tryd.ntmps10
  go_wp2_with fail
  refine (C1.out _ G.out).mono ?_
  rintro e w1 ⟨rfl, hb1⟩
  rw [show pB (⟨#[45, 48]⟩ : ByteArray).data.toList = false from E.out]
  go_wp2_with fail
  refine (C2.out _ (G.out.keep hb1)).mono ?_
  rintro e w2 ⟨rfl, hb2⟩
  rw [show pB (⟨#[48, 48, 55]⟩ : ByteArray).data.toList = false from E2.out]
  have hb12 := hb1.trans (hb2.mono hb1.size)
  go_wp2_with fail
  refine (C3.out _ (G.out.keep hb12)).mono ?_
  rintro e w3 ⟨rfl, hb3⟩
  rw [show pB (⟨#[45, 55]⟩ : ByteArray).data.toList = true from E3.out, show pV (⟨#[45, 55]⟩ : ByteArray).data.toList = -7 from E4.out]
  have hb123 := hb12.trans (hb3.mono hb12.size)
  go_wp2_with fail
  refine (C4.out _).mono ?_
  rintro e w4 ⟨rfl, hb4⟩
  go_wp2
  go_ret
  exact ⟨rfl, hb123.trans (hb4.mono hb123.size)⟩

end Go.Proofs.YtioleajmfgglhaaDoor.NumL
