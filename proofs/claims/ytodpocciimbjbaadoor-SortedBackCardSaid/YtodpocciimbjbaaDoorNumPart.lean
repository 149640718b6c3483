/-
  What num.place, num.bounds and num.Part come to.
-/
import Derived.Test.YtodpocciimbjbaaDoorChecked
import Derived.Test.YtodpocciimbjbaaDoorKit
import Derived.Test.YtodpocciimbjbaaDoorNumParse
import Derived.BigQuiet
import Derived.Deep.QuietTactic
import Derived.Lib.Hide
namespace Go.Proofs.YtodpocciimbjbaaDoor.NumW
open Go.RowKit Kit
set_option maxRecDepth 100000

/-- num.place. -/
def placeI (many n : Int) : Int := if n < 0 then many + n else n
theorem place_any (many n : Int) (w : World) (hm0 : 1 ≤ many) (hm1 : many ≤ 9223372036854775807) (hn0 : -9223372036854775808 ≤ n) (hn1 : n ≤ 9223372036854775807) :
    Calls Tryd.prog 71 #[.int .i64 many, .int .i64 n] w fun e w' => e = .returned (.int .i64 (placeI many n)) ∧ w = w' := by
  by_cases h : n < 0
  · have H := Lib.hid (show placeI many n = many + n from if_pos h)
    go_enter Tryd.func71, Tryd.ntmps71
    go_wp2
    go_ret
    exact ⟨ret_int H.out.symm, rfl⟩
  · have H := Lib.hid (show placeI many n = n from if_neg h)
    go_enter Tryd.func71, Tryd.ntmps71
    go_wp2
    go_ret
    exact ⟨ret_int H.out.symm, rfl⟩

/-- num.bounds. -/
def boundsI (many a b : Int) : Int × Int :=
  let x := max 0 (placeI many a)
  let y := min (many - 1) (placeI many b)
  if y < x then (0, 0) else (x, y + 1)
theorem placeI_le (many n : Int) (hm0 : 1 ≤ many) (hm1 : many ≤ 9223372036854775807) (hn0 : -9223372036854775808 ≤ n) (hn1 : n ≤ 9223372036854775807) : -9223372036854775808 ≤ placeI many n ∧ placeI many n ≤ 9223372036854775807 := by
  unfold placeI; split <;> omega
theorem bounds_any (many a b : Int) (w : World) (hm0 : 1 ≤ many) (hm1 : many ≤ 9223372036854775807) (ha0 : -9223372036854775808 ≤ a) (ha1 : a ≤ 9223372036854775807) (hb0 : -9223372036854775808 ≤ b) (hb1 : b ≤ 9223372036854775807) :
    Calls Tryd.prog 64 #[.int .i64 many, .int .i64 a, .int .i64 b] w fun e w' => e = .returned (.tuple #[.int .i64 (boundsI many a b).1, .int .i64 (boundsI many a b).2]) ∧ w = w' := by
  obtain ⟨x, hx⟩ : ∃ x, x = placeI many a := ⟨_, rfl⟩
  obtain ⟨y, hy⟩ : ∃ y, y = placeI many b := ⟨_, rfl⟩
  have hx1 := placeI_le many a hm0 hm1 ha0 ha1
  have hy1 := placeI_le many b hm0 hm1 hb0 hb1
  have ca := fun w => place_any many a w hm0 hm1 ha0 ha1
  have cb := fun w => place_any many b w hm0 hm1 hb0 hb1
  have hB : boundsI many a b = if min (many - 1) y < max 0 x then (0, 0) else (max 0 x, min (many - 1) y + 1) := by rw [hx, hy]; rfl
  rw [← hx] at ca hx1
  rw [← hy] at cb hy1
  obtain ⟨hx1, hx2⟩ := hx1
  obtain ⟨hy1, hy2⟩ := hy1
  clear hx hy
  have CA := Lib.hid ca
  have CB := Lib.hid cb
  clear ca cb
  by_cases h1 : x < 0
  · by_cases h2 : many ≤ y
    · have H := Lib.hid (show boundsI many a b = (0, many) by rw [hB, if_neg (by omega)]; congr 1 <;> omega)
      clear hB
      go_enter Tryd.func64, Tryd.ntmps64
      go_wp2_with fail
      refine (CA.out _).mono ?_
      rintro e w' ⟨rfl, rfl⟩
      go_wp2_with fail
      refine (CB.out _).mono ?_
      rintro e w' ⟨rfl, rfl⟩
      go_wp2
      go_ret2
      exact ⟨ret_ii (by rw [H.out]) (by rw [H.out]), rfl⟩
    · by_cases h3 : y < 0
      · have H := Lib.hid (show boundsI many a b = (0, 0) by rw [hB, if_pos (by omega)])
        clear hB
        go_enter Tryd.func64, Tryd.ntmps64
        go_wp2_with fail
        refine (CA.out _).mono ?_
        rintro e w' ⟨rfl, rfl⟩
        go_wp2_with fail
        refine (CB.out _).mono ?_
        rintro e w' ⟨rfl, rfl⟩
        go_wp2
        go_ret2
        exact ⟨ret_ii (by rw [H.out]) (by rw [H.out]), rfl⟩
      · have H := Lib.hid (show boundsI many a b = (0, y + 1) by rw [hB, if_neg (by omega)]; congr 1 <;> omega)
        clear hB
        go_enter Tryd.func64, Tryd.ntmps64
        go_wp2_with fail
        refine (CA.out _).mono ?_
        rintro e w' ⟨rfl, rfl⟩
        go_wp2_with fail
        refine (CB.out _).mono ?_
        rintro e w' ⟨rfl, rfl⟩
        go_wp2
        go_ret2
        exact ⟨ret_ii (by rw [H.out]) (by rw [H.out]), rfl⟩
  · by_cases h2 : many ≤ y
    · by_cases h3 : many - 1 < x
      · have H := Lib.hid (show boundsI many a b = (0, 0) by rw [hB, if_pos (by omega)])
        clear hB
        go_enter Tryd.func64, Tryd.ntmps64
        go_wp2_with fail
        refine (CA.out _).mono ?_
        rintro e w' ⟨rfl, rfl⟩
        go_wp2_with fail
        refine (CB.out _).mono ?_
        rintro e w' ⟨rfl, rfl⟩
        go_wp2
        go_ret2
        exact ⟨ret_ii (by rw [H.out]) (by rw [H.out]), rfl⟩
      · have H := Lib.hid (show boundsI many a b = (x, many) by rw [hB, if_neg (by omega)]; congr 1 <;> omega)
        clear hB
        go_enter Tryd.func64, Tryd.ntmps64
        go_wp2_with fail
        refine (CA.out _).mono ?_
        rintro e w' ⟨rfl, rfl⟩
        go_wp2_with fail
        refine (CB.out _).mono ?_
        rintro e w' ⟨rfl, rfl⟩
        go_wp2
        go_ret2
        exact ⟨ret_ii (by rw [H.out]) (by rw [H.out]), rfl⟩
    · by_cases h3 : y < x
      · have H := Lib.hid (show boundsI many a b = (0, 0) by rw [hB, if_pos (by omega)])
        clear hB
        go_enter Tryd.func64, Tryd.ntmps64
        go_wp2_with fail
        refine (CA.out _).mono ?_
        rintro e w' ⟨rfl, rfl⟩
        go_wp2_with fail
        refine (CB.out _).mono ?_
        rintro e w' ⟨rfl, rfl⟩
        go_wp2
        go_ret2
        exact ⟨ret_ii (by rw [H.out]) (by rw [H.out]), rfl⟩
      · have H := Lib.hid (show boundsI many a b = (x, y + 1) by rw [hB, if_neg (by omega)]; congr 1 <;> omega)
        clear hB
        go_enter Tryd.func64, Tryd.ntmps64
        go_wp2_with fail
        refine (CA.out _).mono ?_
        rintro e w' ⟨rfl, rfl⟩
        go_wp2_with fail
        refine (CB.out _).mono ?_
        rintro e w' ⟨rfl, rfl⟩
        go_wp2
        go_ret2
        exact ⟨ret_ii (by rw [H.out]) (by rw [H.out]), rfl⟩

end Go.Proofs.YtodpocciimbjbaaDoor.NumW
namespace Go.Proofs.YtodpocciimbjbaaDoor.NumL
open Go.RowKit Kit NumMath NumW
open Go.Sort (grow)
set_option maxRecDepth 100000

/-- num.Part's three results, of what num.Parse says. -/
def partR (many x y : Int) (p q : Bool) : Int × Int × Bool :=
  match p, q with
  | true, true => if many ≤ 0 then (0, 0, true) else ((boundsI many x y).1, (boundsI many x y).2, true)
  | _, _ => (0, 0, false)
def partV (many : Int) (a b : List UInt8) : Int × Int × Bool := partR many (pV a) (pV b) (pB a) (pB b)

theorem boundsI_lt (many a b : Int) : (boundsI many a b).1 ≤ (boundsI many a b).2 ∧ 0 ≤ (boundsI many a b).1 ∧ (boundsI many a b).2 ≤ max 0 many := by
  unfold boundsI
  simp only
  split <;> simp only <;> omega

theorem part_core (many x y : Int) (p q : Bool) (a b : ByteArray) (hx0 : -9223372036854775808 ≤ x) (hx1 : x ≤ 9223372036854775807) (hy0 : -9223372036854775808 ≤ y) (hy1 : y ≤ 9223372036854775807) (hm0 : -9223372036854775808 ≤ many) (hm1 : many ≤ 9223372036854775807)
    (ca : ∀ W, Gd W → Calls Tryd.prog 48 #[.string a] W fun e w' => e = .returned (.tuple #[.int .i64 x, .bool p]) ∧ Below W.heap.size W w')
    (cb : ∀ W, Gd W → Calls Tryd.prog 48 #[.string b] W fun e w' => e = .returned (.tuple #[.int .i64 y, .bool q]) ∧ Below W.heap.size W w') (w : World) (hg : Gd w) :
    Calls Tryd.prog 57 #[.int .i64 many, .string a, .string b] w fun e w' =>
      e = .returned (.tuple #[.int .i64 (partR many x y p q).1, .int .i64 (partR many x y p q).2.1, .bool (partR many x y p q).2.2]) ∧ Below w.heap.size w w' := by
  have CA := Lib.hid ca
  have CB := Lib.hid cb
  have G := Lib.hid hg
  clear ca cb hg
  by_cases hm : many ≤ 0
  · cases p <;> cases q
    all_goals
      go_enter Tryd.func57, Tryd.ntmps57
      go_wp2_with fail
      refine (CA.out _ G.out).mono ?_
      rintro e w1 ⟨rfl, hb1⟩
      go_wp2_with fail
      refine (CB.out _ (G.out.keep hb1)).mono ?_
      rintro e w2 ⟨rfl, hb2⟩
      go_wp2
      go_ret3
      exact ⟨ret_iib (by simp [partR, hm]) (by simp [partR, hm]) (by simp [partR, hm]), hb1.trans (hb2.mono hb1.size)⟩
  · have CC := Lib.hid (fun W => bounds_any many x y W (by omega) hm1 hx0 hx1 hy0 hy1)
    cases p <;> cases q
    all_goals
      go_enter Tryd.func57, Tryd.ntmps57
      go_wp2_with fail
      refine (CA.out _ G.out).mono ?_
      rintro e w1 ⟨rfl, hb1⟩
      go_wp2_with fail
      refine (CB.out _ (G.out.keep hb1)).mono ?_
      rintro e w2 ⟨rfl, hb2⟩
      go_wp2_with (go_at_call 64; refine (CC.out _).mono ?_; rintro e w3 ⟨rfl, rfl⟩)
      go_ret3
      have hm' : ¬ many ≤ 0 := by omega
      exact ⟨ret_iib (by simp [partR, hm']) (by simp [partR, hm']) (by simp [partR, hm']), hb1.trans (hb2.mono hb1.size)⟩

theorem part_any (many : Int) (a b : ByteArray) (ha : a.size ≤ 281474976710656) (hb : b.size ≤ 281474976710656) (hm0 : -9223372036854775808 ≤ many) (hm1 : many ≤ 9223372036854775807) (w : World) (hg : Gd w) :
    Calls Tryd.prog 57 #[.int .i64 many, .string a, .string b] w fun e w' =>
      e = .returned (.tuple #[.int .i64 (partV many a.data.toList b.data.toList).1, .int .i64 (partV many a.data.toList b.data.toList).2.1, .bool (partV many a.data.toList b.data.toList).2.2]) ∧ Below w.heap.size w w' :=
  part_core many _ _ _ _ a b (pV_bounds _).1 (pV_bounds _).2 (pV_bounds _).1 (pV_bounds _).2 hm0 hm1 (fun W hW => parse_any a ha W hW) (fun W hW => parse_any b hb W hW) w hg


end Go.Proofs.YtodpocciimbjbaaDoor.NumL
