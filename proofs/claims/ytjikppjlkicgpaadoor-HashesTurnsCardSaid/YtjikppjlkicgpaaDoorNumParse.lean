/-
  What num.Text and num.Parse come to, over the library's contracts (laid at this program in YtjikppjlkicgpaaDoorShelf).
-/
import Derived.Test.YtjikppjlkicgpaaDoorChecked
import Derived.Test.YtjikppjlkicgpaaDoorShelf
import Derived.Test.YtjikppjlkicgpaaDoorKit
import Derived.Test.YtjikppjlkicgpaaDoorNumMath
import Derived.Lib.AtoiErrMem
namespace Go.Proofs.YtjikppjlkicgpaaDoor.NumL
open Go.RowKit Kit NumMath
open Go.Sort (grow)
set_option maxRecDepth 100000

theorem below_grow (w : World) (q : Nat) (os : Array Obj) : Below w.heap.size w (grow (w.drewN q) os) :=
  ⟨rfl, rfl, rfl, by show w.heap.size ≤ (w.heap ++ os).size; simp, fun k hk => by show (w.heap ++ os)[k]? = _; exact Array.getElem?_append_left hk⟩

/-- WHAT THE WORLD HOLDS OF THE LIBRARY: the table of powers of ten, and the two errors. -/
structure Gd (w : World) : Prop where
  tab : Lib.TabIs Tryd.prog w "internal/strconv.uint64pow10" .u64 Lib.pow10Tab
  syn : ∃ tp p, w.var? Tryd.prog "strconv.ErrSyntax" = some #[.iface tp p]
  rng : ∃ tp p, w.var? Tryd.prog "strconv.ErrRange" = some #[.iface tp p]
theorem Gd.keep {w w' : World} (h : Gd w) (hb : Below w.heap.size w w') : Gd w' := by
  obtain ⟨tp, p, h1⟩ := h.syn
  obtain ⟨tq, q, h2⟩ := h.rng
  exact ⟨var_keep hb h.tab, ⟨tp, p, var_keep hb h1⟩, ⟨tq, q, var_keep hb h2⟩⟩

/-- Of these, what telling a number asks: the table alone. -/
structure Gt (w : World) : Prop where
  tab : Lib.TabIs Tryd.prog w "internal/strconv.uint64pow10" .u64 Lib.pow10Tab
theorem Gt.keep {w w' : World} (h : Gt w) (hb : Below w.heap.size w w') : Gt w' := ⟨var_keep hb h.tab⟩
theorem Gd.gt {w : World} (h : Gd w) : Gt w := ⟨h.tab⟩
instance {w : World} : Coe (Gd w) (Gt w) := ⟨Gd.gt⟩
theorem text_t (n : Int) (h0 : -9223372036854775808 ≤ n) (h1 : n ≤ 9223372036854775807) (w : World) (hg : Gt w) :
    Calls Tryd.prog 52 #[.int .i64 n] w fun e w' => e = .returned (.string ⟨(Lib.itoa n).toArray⟩) ∧ Below w.heap.size w w' := by
  have c := fun W (h : Gt W) => (Tryd.strconv_Itoa n h0 h1 W h.tab).mono (R' := fun e w' => e = .returned (.string ⟨(Lib.itoa n).toArray⟩) ∧ Below W.heap.size W w') fun e w' ⟨he, k, os, hw⟩ => ⟨he, by rw [hw]; exact below_grow _ _ _⟩
  have C := Lib.hid c
  have G := Lib.hid hg
  clear c hg
  go_enter Tryd.func52, Tryd.ntmps52
  go_wp2_with fail
  refine (C.out _ G.out).mono ?_
  rintro e w' ⟨rfl, hb⟩
  go_wp2_with fail
  go_ret
  exact ⟨rfl, hb⟩

theorem itoa_any (n : Int) (h0 : -9223372036854775808 ≤ n) (h1 : n ≤ 9223372036854775807) (w : World) (hg : Gd w) :
    Calls Tryd.prog 59 #[.int .i64 n] w fun e w' => e = .returned (.string ⟨(Lib.itoa n).toArray⟩) ∧ Below w.heap.size w w' :=
  (Tryd.strconv_Itoa n h0 h1 w hg.tab).mono fun e w' ⟨he, k, os, hw⟩ => ⟨he, by rw [hw]; exact below_grow _ _ _⟩

theorem text_any (n : Int) (h0 : -9223372036854775808 ≤ n) (h1 : n ≤ 9223372036854775807) (w : World) (hg : Gd w) :
    Calls Tryd.prog 52 #[.int .i64 n] w fun e w' => e = .returned (.string ⟨(Lib.itoa n).toArray⟩) ∧ Below w.heap.size w w' := by
  have c := fun W (h : Gd W) => itoa_any n h0 h1 W h
  have C := Lib.hid c
  have G := Lib.hid hg
  clear c hg
  go_enter Tryd.func52, Tryd.ntmps52
  go_wp2_with fail
  refine (C.out _ G.out).mono ?_
  rintro e w' ⟨rfl, hb⟩
  go_wp2
  go_ret
  exact ⟨rfl, hb⟩

/-- num.Parse's two results. -/
def pV (l : List UInt8) : Int := (parse l).getD 0
def pB (l : List UInt8) : Bool := (parse l).isSome

theorem parse_ok {l : List UInt8} {v : Int} (h : Lib.atoiAll l = .ok v) (he : Lib.itoa v = l) : pV l = v ∧ pB l = true := by
  have : parse l = some v := by unfold parse; rw [h]; simp [he]
  simp [pV, pB, this]
theorem parse_un {l : List UInt8} {v : Int} (h : Lib.atoiAll l = .ok v) (he : Lib.itoa v ≠ l) : pV l = 0 ∧ pB l = false := by
  have : parse l = none := by unfold parse; rw [h]; simp [he]
  simp [pV, pB, this]
theorem parse_bad {l : List UInt8} (h : ∀ v, Lib.atoiAll l ≠ .ok v) : pV l = 0 ∧ pB l = false := by
  have : parse l = none := by
    unfold parse
    split
    · rename_i v hv
      exact absurd hv (h v)
    · rfl
  simp [pV, pB, this]

/-- strconv.Atoi where it fails: some number, an error that is not nil, and nothing that was there has turned. -/
def AtoiFails (s : ByteArray) (W : World) : Prop :=
  Calls Tryd.prog 58 #[.string s] W fun e w' => ∃ (x : Int) (N : Nat), e = .returned (.tuple #[.int .i64 x, .iface 102 (.pointer (some ⟨N, 0, none⟩))]) ∧ Below W.heap.size W w'
theorem atoi_fails (s : ByteArray) (hlim : s.size ≤ 281474976710656) (h : ∀ v, Lib.atoiAll s.data.toList ≠ .ok v) (W : World) (hg : Gd W) : AtoiFails s W := by
  obtain ⟨tp, p, h1⟩ := hg.syn
  obtain ⟨tq, q, h2⟩ := hg.rng
  rcases hh : Lib.atoiAll s.data.toList with v | _ | _
  · exact absurd hh (h v)
  · exact (Any.strconv_Atoi_syntax_var Tryd.laysC172 s hlim hh tp p W h1).mono fun e w' ⟨N, he, _, _, hb⟩ => ⟨_, N, he, hb⟩
  · exact (Any.strconv_Atoi_range_var Tryd.laysC172 s hlim hh tq q W h2).mono fun e w' ⟨N, he, _, _, hb⟩ => ⟨_, N, he, hb⟩

theorem atoi_ok (s : ByteArray) (hlim : s.size ≤ 281474976710656) (v : Int) (h : Lib.atoiAll s.data.toList = .ok v) (w : World) :
    Calls Tryd.prog 58 #[.string s] w fun e w' => e = .returned (.tuple #[.int .i64 v, .nilIface]) ∧ Below w.heap.size w w' :=
  (Tryd.strconv_Atoi_ok s (by omega) v h w).mono fun e w' ⟨he, hw⟩ => ⟨he, by
    rcases hw with rfl | ⟨t, rfl⟩
    · exact Below.refl _ _
    · exact Kit.bytesWorld_below _ _ _⟩

theorem parse_any (s : ByteArray) (hlim : s.size ≤ 281474976710656) (w : World) (hg : Gd w) :
    Calls Tryd.prog 49 #[.string s] w fun e w' => e = .returned (.tuple #[.int .i64 (pV s.data.toList), .bool (pB s.data.toList)]) ∧ Below w.heap.size w w' := by
  by_cases hv : ∃ v, Lib.atoiAll s.data.toList = .ok v
  · obtain ⟨v, h⟩ := hv
    obtain ⟨v0, v1⟩ := Lib.atoiAll_bounds h
    have C := Lib.hid (atoi_ok s hlim v h)
    have T := Lib.hid (fun W (hW : Gd W) => text_any v v0 v1 W hW)
    have G := Lib.hid hg
    by_cases he : Lib.itoa v = s.data.toList
    · have H := Lib.hid (parse_ok h he)
      have hq : (Lib.itoa v == s.toList) = true := by rw [ByteArray.toList_eq, he]; simp
      clear h hg he
      go_enter Tryd.func49, Tryd.ntmps49
      go_wp2_with fail
      refine (C.out _).mono ?_
      rintro e w1 ⟨rfl, hb⟩
      go_wp2_with fail
      refine (T.out _ (G.out.keep hb)).mono ?_
      rintro e w2 ⟨rfl, hb2⟩
      go_wp2
      go_ret2
      exact ⟨ret_ib H.out.1.symm H.out.2.symm, hb.trans (hb2.mono hb.size)⟩
    · have H := Lib.hid (parse_un h he)
      have hq : (Lib.itoa v == s.toList) = false := by rw [ByteArray.toList_eq]; simp [he]
      clear h hg he
      go_enter Tryd.func49, Tryd.ntmps49
      go_wp2_with fail
      refine (C.out _).mono ?_
      rintro e w1 ⟨rfl, hb⟩
      go_wp2_with fail
      refine (T.out _ (G.out.keep hb)).mono ?_
      rintro e w2 ⟨rfl, hb2⟩
      go_wp2
      go_ret2
      exact ⟨ret_ib H.out.1.symm H.out.2.symm, hb.trans (hb2.mono hb.size)⟩
  · have hn : ∀ v, Lib.atoiAll s.data.toList ≠ .ok v := fun v h => hv ⟨v, h⟩
    have C := Lib.hid (fun W hW => atoi_fails s hlim hn W hW)
    have H := Lib.hid (parse_bad hn)
    have G := Lib.hid hg
    clear hn hg hv
    go_enter Tryd.func49, Tryd.ntmps49
    go_wp2_with fail
    refine (show Calls _ _ _ _ _ from C.out _ G.out).mono ?_
    rintro e w1 ⟨x, N, rfl, hb⟩
    go_wp2
    go_ret2
    exact ⟨ret_ib H.out.1.symm H.out.2.symm, hb⟩

theorem pV_bounds (l : List UInt8) : -9223372036854775808 ≤ pV l ∧ pV l ≤ 9223372036854775807 := by
  unfold pV
  cases h : parse l with
  | none => simp
  | some n => exact (parse_some h).2

end Go.Proofs.YtjikppjlkicgpaaDoor.NumL
