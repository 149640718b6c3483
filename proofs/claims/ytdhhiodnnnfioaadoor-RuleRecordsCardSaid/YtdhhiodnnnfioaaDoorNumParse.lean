/-
  What num.Parse comes to, over the library's contracts (laid at this program in YtdhhiodnnnfioaaDoorShelf).
-/
import Derived.Test.YtdhhiodnnnfioaaDoorNumText
import Derived.Lib.AtoiErrMem
namespace Go.Proofs.YtdhhiodnnnfioaaDoor.NumL
open Go.RowKit Kit NumMath
open Go.Sort (grow)
set_option maxRecDepth 100000

/-- strconv.Atoi where it fails: some number, an error that is not nil, and nothing that was there has turned. -/
def AtoiFails (s : ByteArray) (W : World) : Prop :=
  Calls Tryd.prog 65 #[.string s] W fun e w' => ∃ (x : Int) (N : Nat), e = .returned (.tuple #[.int .i64 x, .iface 116 (.pointer (some ⟨N, 0, none⟩))]) ∧ Below W.heap.size W w'
theorem atoi_fails (s : ByteArray) (hlim : s.size ≤ 281474976710656) (h : ∀ v, Lib.atoiAll s.data.toList ≠ .ok v) (W : World) (hg : Gd W) : AtoiFails s W := by
  obtain ⟨tp, p, h1⟩ := hg.syn
  obtain ⟨tq, q, h2⟩ := hg.rng
  rcases hh : Lib.atoiAll s.data.toList with v | _ | _
  · exact absurd hh (h v)
  · exact (Any.strconv_Atoi_syntax_var Tryd.laysC172 s hlim hh tp p W h1).mono fun e w' ⟨N, he, _, _, hb⟩ => ⟨_, N, he, hb⟩
  · exact (Any.strconv_Atoi_range_var Tryd.laysC172 s hlim hh tq q W h2).mono fun e w' ⟨N, he, _, _, hb⟩ => ⟨_, N, he, hb⟩

theorem atoi_ok (s : ByteArray) (hlim : s.size ≤ 281474976710656) (v : Int) (h : Lib.atoiAll s.data.toList = .ok v) (w : World) :
    Calls Tryd.prog 65 #[.string s] w fun e w' => e = .returned (.tuple #[.int .i64 v, .nilIface]) ∧ Below w.heap.size w w' :=
  (Tryd.strconv_Atoi_ok s (by omega) v h w).mono fun e w' ⟨he, hw⟩ => ⟨he, by
    rcases hw with rfl | ⟨t, rfl⟩
    · exact Below.refl _ _
    · exact Kit.bytesWorld_below _ _ _⟩

theorem parse_any (s : ByteArray) (hlim : s.size ≤ 281474976710656) (w : World) (hg : Gd w) :
    Calls Tryd.prog 56 #[.string s] w fun e w' => e = .returned (.tuple #[.int .i64 (pV s.data.toList), .bool (pB s.data.toList)]) ∧ Below w.heap.size w w' := by
  by_cases hv : ∃ v, Lib.atoiAll s.data.toList = .ok v
  · obtain ⟨v, h⟩ := hv
    obtain ⟨v0, v1⟩ := Lib.atoiAll_bounds h
    have C := Lib.hid (atoi_ok s hlim v h)
    have T := Lib.hid (fun W (hW : Gd W) => text_any v v0 v1 W hW)
    have G := Lib.hid hg
    by_cases he : Lib.itoa v = s.data.toList
    · have H := Lib.hid (parse_ok h he)
      have hq : (Lib.itoa v == s.toList) = true := by rw [ByteArray.toList_eq, he]; simp
      clear h hg he
      go_enter Tryd.func56, Tryd.ntmps56
      go_wp2_with fail
      refine (C.out _).mono ?_
      rintro e w1 ⟨rfl, hb⟩
      go_wp2_with fail
      refine (T.out _ (G.out.keep hb)).mono ?_
      rintro e w2 ⟨rfl, hb2⟩
      go_wp2
      go_ret2
      exact ⟨ret_ib H.out.1.symm H.out.2.symm, hb.trans (hb2.mono hb.size)⟩
    · have H := Lib.hid (parse_un h he)
      have hq : (Lib.itoa v == s.toList) = false := by rw [ByteArray.toList_eq]; simp [he]
      clear h hg he
      go_enter Tryd.func56, Tryd.ntmps56
      go_wp2_with fail
      refine (C.out _).mono ?_
      rintro e w1 ⟨rfl, hb⟩
      go_wp2_with fail
      refine (T.out _ (G.out.keep hb)).mono ?_
      rintro e w2 ⟨rfl, hb2⟩
      go_wp2
      go_ret2
      exact ⟨ret_ib H.out.1.symm H.out.2.symm, hb.trans (hb2.mono hb.size)⟩
  · have hn : ∀ v, Lib.atoiAll s.data.toList ≠ .ok v := fun v h => hv ⟨v, h⟩
    have C := Lib.hid (fun W hW => atoi_fails s hlim hn W hW)
    have H := Lib.hid (parse_bad hn)
    have G := Lib.hid hg
    clear hn hg hv
    go_enter Tryd.func56, Tryd.ntmps56
    go_wp2_with fail
    refine (show Calls _ _ _ _ _ from C.out _ G.out).mono ?_
    rintro e w1 ⟨x, N, rfl, hb⟩
    go_wp2
    go_ret2
    exact ⟨ret_ib H.out.1.symm H.out.2.symm, hb⟩

theorem pV_bounds (l : List UInt8) : -9223372036854775808 ≤ pV l ∧ pV l ≤ 9223372036854775807 := by
  unfold pV
  cases h : parse l with
  | none => simp
  | some n => exact (parse_some h).2

end Go.Proofs.YtdhhiodnnnfioaaDoor.NumL
