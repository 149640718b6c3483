/-
  Requests of any words that are made to fit a command: what is known of them, and the document's own way.
-/
import Derived.Test.YtodpocciimbjbaaDoorStrRowz
import Derived.Test.YtodpocciimbjbaaDoorTableMath
import Derived.Test.YtodpocciimbjbaaDoorLow
import Derived.Test.YtodpocciimbjbaaDoorRefTabs
import Derived.Test.YtodpocciimbjbaaDoorQuietTail
import Derived.Test.YtodpocciimbjbaaDoorStrSame
import Derived.Test.YtodpocciimbjbaaDoorRow
import Derived.Deep.RegionLaw
namespace Go.Proofs.YtodpocciimbjbaaDoor.FitT
open Go.RowKit Kit StrT TableMath Low
set_option linter.unusedVariables false
set_option maxRecDepth 100000

/-- What was answered: texts in new memory. -/
def AnsS (base : Nat) (w : World) (v : Value) (L : List (List UInt8)) : Prop :=
  ∃ q c, v = .slice q L.length c ∧ Ss w q L ∧ (∀ a, q = some a → base ≤ a.block) ∧ L.length ≤ c ∧ c ≤ 9223372036854775807 ∧ (q = none → c = 0)
theorem AnsS.keep {base : Nat} {w w' : World} {v : Value} {L : List (List UInt8)} (h : AnsS base w v L) (hb : Below w.heap.size w w') : AnsS base w' v L := by
  obtain ⟨q, c, hv, hS, h1⟩ := h
  exact ⟨q, c, hv, hS.keep hb, h1⟩
theorem ansS_low {b b' : Nat} {w : World} {v : Value} {L : List (List UInt8)} (h : AnsS b w v L) (hb : b' ≤ b) : AnsS b' w v L := by
  obtain ⟨q, c, hv, hS, hge, h1⟩ := h
  exact ⟨q, c, hv, hS, fun a ha => Nat.le_trans hb (hge a ha), h1⟩
theorem ownS_ans {base : Nat} {w : World} {v : Value} {L : List (List UInt8)} (h : OwnS base w v L) : AnsS base w v L := by
  rcases id h.2 with ⟨rfl, h0⟩ | ⟨g, cap, cur, rfl, hgb, hh, hc, hm, hsz, htake⟩
  · obtain rfl : L = [] := List.eq_nil_of_length_eq_zero h0
    exact ⟨none, 0, rfl, fun h => absurd h (by simp), (fun a h => by cases h), by simp, by omega, fun _ => rfl⟩
  · unfold maxLen at hm
    refine ⟨_, cap, rfl, fun h0 => ⟨g, 0, rfl, ?_, fun j hj => ?_⟩, (fun a ha => by injection ha with ha; subst ha; exact hgb), hc, by omega, fun h => by cases h⟩
    · rcases Nat.lt_or_ge g w.heap.size with h' | h'
      · exact h'
      · rw [Array.getElem?_eq_none h'] at hh; cases hh
    · rw [Nat.zero_add, World.ownsRow.cellAt h j (by omega), sv_at L j hj]
theorem ownS_new (w W : World) (k : Nat) (hk : k = W.heap.size) (h : w.heap.size ≤ W.heap.size) : OwnS w.heap.size (W.alloc (.cells #[] 9)) (.slice (some ⟨k, 0, none⟩) 0 0) [] := by
  subst hk
  exact World.ownsRow_lit W #[] 0 h (by simp [maxLen]) rfl
theorem ansS_nil (base : Nat) (w : World) : AnsS base w (.slice none 0 0) [] := ⟨none, 0, rfl, (fun h => absurd h (by simp)), (fun a h => by cases h), by simp, by omega, fun _ => rfl⟩
theorem name_eq {T : ByteArray} {m l : List UInt8} (hT : T.data.toList = m) (h : m = l) : (T.toList == l) = true ∧ (T.toList == (⟨l.toArray⟩ : ByteArray).toList) = true := by
  subst h
  refine ⟨?_, ?_⟩
  · rw [ByteArray.toList_eq, hT]; exact beq_self_eq_true _
  · rw [ByteArray.toList_eq, ByteArray.toList_eq, hT]; exact beq_self_eq_true _
theorem name_ne {T : ByteArray} {m l : List UInt8} (hT : T.data.toList = m) (h : m ≠ l) : (T.toList == l) = false ∧ (T.toList == (⟨l.toArray⟩ : ByteArray).toList) = false := by
  refine ⟨?_, ?_⟩
  · rw [ByteArray.toList_eq, hT]; exact beq_eq_false_iff_ne.2 h
  · rw [ByteArray.toList_eq, ByteArray.toList_eq, hT]; exact beq_eq_false_iff_ne.2 h
def nMset : List UInt8 := [109, 115, 101, 116]
/-- A row of words: its first one, and that none is long. -/
def HeadOk (nm : List UInt8) (L : List (List UInt8)) : Prop := L.getD 0 [] = nm ∧ ∀ s ∈ L, s.length ≤ 20
theorem HeadOk.one {nm : List UInt8} (h : nm.length ≤ 20) : HeadOk nm [nm] := ⟨rfl, fun s hs => by rw [List.mem_singleton.1 hs]; exact h⟩
theorem HeadOk.snoc {nm : List UInt8} {L : List (List UInt8)} (h : HeadOk nm L) (h0 : 1 ≤ L.length) (x : List UInt8) (hx : x.length ≤ 20) : HeadOk nm (L ++ [x]) := by
  refine ⟨?_, fun s hs => ?_⟩
  · rw [← h.1, List.getD_eq_getElem?_getD, List.getD_eq_getElem?_getD, List.getElem?_append_left (by omega)]
  · rcases List.mem_append.1 hs with hs | hs
    · exact h.2 s hs
    · rw [List.mem_singleton.1 hs]; exact hx
/-- A request that fits a command. -/
def FitOk (k : Nat) (L : List (List UInt8)) : Prop := L.length ≤ 11 ∧ HeadOk (cmdAt k).name L ∧ (cmdAt k).ar.natAbs ≤ L.length ∧ 1 ≤ L.length
theorem least_all : (List.range 56).all (fun k => decide ((cmdAt k).ar.natAbs ≤ 4 ∧ 1 ≤ (cmdAt k).ar.natAbs ∧ (cmdAt k).name.length ≤ 20 ∧ ((cmdAt k).name = nMset → (cmdAt k).ar = -3))) = true := by decide +kernel
theorem least_at {k : Nat} (h : k < 56) : (cmdAt k).ar.natAbs ≤ 4 ∧ 1 ≤ (cmdAt k).ar.natAbs ∧ (cmdAt k).name.length ≤ 20 ∧ ((cmdAt k).name = nMset → (cmdAt k).ar = -3) := of_decide_eq_true (List.all_eq_true.1 least_all k (List.mem_range.2 h))
theorem fit_ok {k : Nat} (h : k < 56) {L : List (List UInt8)} (h0 : L.length ≤ 11) (h1 : HeadOk (cmdAt k).name L) (h2 : (cmdAt k).ar.natAbs ≤ L.length) (h3 : 0 ≤ (cmdAt k).ar → L.length ≤ (cmdAt k).ar.natAbs) (h4 : ¬ ((cmdAt k).name = nMset ∧ L.length % 2 = 0)) : FitOk k L := by
  obtain ⟨a1, a2, a3, a4⟩ := least_at h
  exact ⟨h0, h1, h2, by omega⟩
def FitP (k : Nat) (w : World) (e : Ending) (w' : World) : Prop := ∃ v L, e = .returned v ∧ AnsS w.heap.size w' v L ∧ FitOk k L ∧ Below w.heap.size w w'

end Go.Proofs.YtodpocciimbjbaaDoor.FitT
namespace Go.Proofs.YtodpocciimbjbaaDoor.FitT
open Go.RowKit Kit StrT TableMath Low
set_option linter.unusedVariables false
set_option maxRecDepth 100000

theorem vlen {T V : ByteArray} (h : V = if T.size ≤ 20 then T else T.extract 0 20) : V.data.toList.length ≤ 20 := by
  subst h
  split
  · rw [Array.length_toList]; assumption
  · rw [Array.length_toList]
    show (T.extract 0 20).size ≤ 20
    rw [ByteArray.size_extract]; omega
def lenOf : Value → Nat
  | .slice _ n _ => n
  | _ => 0
set_option maxHeartbeats 8000000 in
theorem rfit (k : Nat) (hk : k < 56) (q : Option Addr) (L : List (List UInt8)) (n c : Nat) (w : World) (hn : L.length = n) (h : Ss w q L) (hz : n ≤ 9223372036854775807) (hs : ∀ s ∈ L, s.length ≤ 140737488351232) :
    Calls Tryd.prog 24 #[.int .i64 (k : Int), .slice q n c] w (FitP k w) := by
  have CA := Lib.hid (fun W => RefTab.at_any (k : Int) W (by omega) (by omega))
  have HS := Lib.hid h
  have HN := Lib.hid hn
  have HZ := Lib.hid hs
  have HOk := Lib.hid (fun L h0 h1 h2 h3 h4 => fit_ok hk (L := L) h0 h1 h2 h3 h4)
  obtain ⟨ha1, ha2, ha3, ha4⟩ := least_at hk
  have HM := Lib.hid ha4
  have HNm := Lib.hid ha3
  clear h hn hs ha3 ha4
  have hv : aggV (atV (k : Int)) = .agg #[.string ⟨(cmdAt k).name.toArray⟩, .int .i64 (cmdAt k).ar, .int .u16 ((cmdAt k).ct : Int)] := by rw [RefTab.atV_in (by omega) (by omega)]; rfl
  rw [hv, show atB (k : Int) = true from decide_eq_true (by omega)] at CA
  obtain ⟨nm, hnm⟩ : ∃ nm, nm = (cmdAt k).name := ⟨_, rfl⟩
  obtain ⟨r, hr⟩ : ∃ r, r = (cmdAt k).ar := ⟨_, rfl⟩
  obtain ⟨g, hg⟩ : ∃ g : Int, g = ((cmdAt k).ct : Int) := ⟨_, rfl⟩
  rw [← hnm, ← hr, ← hg] at CA
  rw [← hr] at ha1 ha2
  rw [← hnm, ← hr] at HM HOk
  rw [← hnm] at HNm
  obtain ⟨S, hS⟩ : ∃ S : ByteArray, S = ⟨nm.toArray⟩ := ⟨_, rfl⟩
  rw [← hS] at CA
  have HSd := Lib.hid (show S.data.toList = nm by rw [hS])
  obtain ⟨m, hm⟩ : ∃ m : Nat, m = r.natAbs := ⟨_, rfl⟩
  rw [← hm] at ha1 ha2 HOk
  have hmr : max r (-r) = (m : Int) := by omega
  have hrb : -4 ≤ r ∧ r ≤ 4 := by omega
  obtain ⟨hr1, hr2⟩ := hrb
  have HE := Lib.hid (fun h => name_eq HSd.out (l := nMset) h)
  have HX := Lib.hid (fun h => name_ne HSd.out (l := nMset) h)
  clear hv hnm hr hg hS hm
  go_enter Tryd.func24, Tryd.ntmps24
  go_wp2_with fail
  refine (CA.out _).mono ?_
  rintro e w1 ⟨rfl, hb1⟩
  have HWc := Lib.hid (hb1.alloc hb1.size (.cells #[.string S, .int .i64 r, .int .u16 g] 74))
  have HC0 := Lib.hid (show (w1.alloc (.cells #[.string S, .int .i64 r, .int .u16 g] 74)).cell? ⟨w1.heap.size, 0, none⟩ = some (.string S) by rw [cell_of_row _ _ _ _ 74 _ (heap_alloc_last w1 _)]; rfl)
  have HL := Lib.hid (show w1.heap.size < (w1.alloc (.cells #[.string S, .int .i64 r, .int .u16 g] 74)).heap.size by simp)
  have HO := Lib.hid (show OwnS (w1.alloc (.cells #[.string S, .int .i64 r, .int .u16 g] 74)).heap.size ((w1.alloc (.cells #[.string S, .int .i64 r, .int .u16 g] 74)).alloc (.cells #[.string S] 9)) (.slice (some ⟨w1.heap.size + 1, 0, none⟩) 1 1) [nm] from by
    have h := World.ownsRow_lit (w1.alloc (.cells #[.string S, .int .i64 r, .int .u16 g] 74)) (e := 9) (size := 1) (base := (w1.alloc (.cells #[.string S, .int .i64 r, .int .u16 g] 74)).heap.size) #[.string S] 1 (Nat.le_refl _) (by simp [maxLen]) rfl
    have e : sv [nm] = [.string S] := by rw [← HSd.out]; rfl
    unfold OwnS
    rw [e]
    simpa using h)
  have HBl := Lib.hid (Kit.below1 (w1.alloc (.cells #[.string S, .int .i64 r, .int .u16 g] 74)) (.cells #[.string S] 9))
  clear CA hb1
  by_cases hneg : r < 0
  · have d0 : decide (r < 0) = true := decide_eq_true hneg
    go_wp2_with fail
    generalize w1.alloc (.cells #[.string S, .int .i64 r, .int .u16 g] 74) = Wc at HWc HC0 HL HO HBl ⊢
    go_loopw [7, 10] (fun v i wr => ∃ (j : Nat) (Y : List (List UInt8)), j ≤ n ∧ i = .int .i64 j ∧ Hid (1 ≤ Y.length ∧ Y.length ≤ 10 ∧ HeadOk nm Y) ∧ Hid (OwnS Wc.heap.size wr v Y) ∧ Hid (Below Wc.heap.size Wc wr)) (fun _ i _ => n - (intOf i).toNat)
    case atStart => exact ⟨0, [nm], Nat.zero_le _, rfl, Lib.hid ⟨by simp, by simp <;> omega, HeadOk.one HNm.out⟩, HO, HBl⟩
    case round =>
      obtain ⟨j, Y, hj, rfl, HY, HOw, HB⟩ := hrel
      obtain ⟨qv, cv, hv, -⟩ := HOw.out.ss
      subst hv
      obtain ⟨l, hl⟩ : ∃ l, l = Y.length := ⟨_, rfl⟩
      have HLn := Lib.hid hl
      rw [← hl] at HOw ⊢
      have hl11 : l ≤ 11 := by have := HY.out.2.1; omega
      clear hl
      by_cases hgo : j < n ∧ l < 10
      · obtain ⟨hlt, hlm⟩ := hgo
        have d1 : decide ((j : Int) < (n : Int)) = true := decide_eq_true (by omega)
        have d2 : decide ((l : Int) < 10) = true := decide_eq_true (by omega)
        have hj0 : (0 : Int) ≤ (j : Int) := by omega
        have hjn : (j : Int) < (n : Int) := by omega
        have hjL : j < L.length := by rw [HN.out]; exact hlt
        obtain ⟨b, off, rfl, hbl, hc⟩ := (HS.out.keep (HWc.out.trans (HB.out.mono HWc.out.size))) (by omega)
        have hu := hc j hjL
        obtain ⟨T, hT⟩ : ∃ T : ByteArray, T = ⟨L[j].toArray⟩ := ⟨_, rfl⟩
        have hTz : T.size ≤ 140737488351232 := by rw [hT]; simpa [ByteArray.size] using HZ.out L[j] (List.getElem_mem hjL)
        rw [← hT] at hu
        clear hT hc
        obtain ⟨V, hV⟩ : ∃ V : ByteArray, V = if T.size ≤ 20 then T else T.extract 0 20 := ⟨_, rfl⟩
        have HNx := Lib.hid (show 1 ≤ (Y ++ [V.data.toList]).length ∧ (Y ++ [V.data.toList]).length ≤ 10 ∧ HeadOk nm (Y ++ [V.data.toList]) from by
          have h := HY.out
          have h2 := HLn.out
          refine ⟨by simp, by rw [List.length_append, List.length_singleton]; omega, ?_⟩
          exact h.2.2.snoc h.1 _ (vlen hV))
        have HSz := Lib.hid (show Y.length ≤ 1048576 by have := HLn.out; omega)
        by_cases h20 : T.size ≤ 20
        · rw [if_pos h20] at hV
          obtain rfl : T = V := hV.symm
          have hmn : ¬ ((20 : Int) < (T.size : Int)) := by omega
          have hmin : min (T.size : Int) 20 = (T.size : Int) := by omega
          have s1 : ∀ W, (Instr.slice 9 (.string T) none (some (.int .i64 (T.size : Int))) none).run Tryd.prog W = .ok (.string T) W := fun W => by
            have h := run_slice_string_h (P := Tryd.prog) W 9 T Tryd.underlying9 .i64 (T.size : Int) (by omega) (by omega)
            rw [h, show ((T.size : Nat) : Int).toNat = T.size from rfl, ByteArray.extract_zero_size]
          clear hV
          have HO1 := Lib.hid ((show OwnS Wc.heap.size wr (.slice qv Y.length cv) Y from by rw [← HLn.out]; exact HOw.out).keep (Kit.below1 wr (.cells #[.string T] 9)))
          rw [← HLn.out] at HO1
          have HC := Lib.hid (show (wr.alloc (.cells #[.string T] 9)).cell? ⟨wr.heap.size, 0, none⟩ = some (.string T) by simp [World.cell?_alloc_mark])
          have HBa := Lib.hid (HB.out.alloc HB.out.size (.cells #[.string T] 9))
          have HRd := Lib.hid (show ∀ v5 w5, OwnS Wc.heap.size w5 v5 (Y ++ [T.data.toList]) → Below Wc.heap.size Wc w5 → True from fun _ _ _ _ => trivial)
          go_wp2_with fail
          go_region_law (refine step_append_s (w0 := Wc) rfl (.tmp 41) (.tmp 53) rfl _ Y rfl (by first | exact ownS_drew HO1.out | exact HO1.out) (by first | exact below_drew HBa.out | exact HBa.out) wr.heap.size T T.data.toList 1 rfl rfl (by exact HC.out) HSz.out ?_; intro v' w5 hown1 hb5)
          all_goals
            clear hu s1
            go_wp2_with fail
            go_roundw
            case rel => exact ⟨j + 1, _, by omega, by go_num, HNx, Lib.hid hown1, Lib.hid hb5⟩
            case measure => simp [intOf]; omega
        · rw [if_neg h20] at hV
          have hmn : (20 : Int) < (T.size : Int) := by omega
          have hmin : min (T.size : Int) 20 = 20 := by omega
          have s1 : ∀ W, (Instr.slice 9 (.string T) none (some (.int .i64 20)) none).run Tryd.prog W = .ok (.string V) W := fun W => by
            have h := run_slice_string_h (P := Tryd.prog) W 9 T Tryd.underlying9 .i64 20 (by omega) (by omega)
            rw [h, hV]
            rfl
          clear hV
          have HO1 := Lib.hid ((show OwnS Wc.heap.size wr (.slice qv Y.length cv) Y from by rw [← HLn.out]; exact HOw.out).keep (Kit.below1 wr (.cells #[.string V] 9)))
          rw [← HLn.out] at HO1
          have HC := Lib.hid (show (wr.alloc (.cells #[.string V] 9)).cell? ⟨wr.heap.size, 0, none⟩ = some (.string V) by simp [World.cell?_alloc_mark])
          have HBa := Lib.hid (HB.out.alloc HB.out.size (.cells #[.string V] 9))
          have HRd := Lib.hid (show ∀ v5 w5, OwnS Wc.heap.size w5 v5 (Y ++ [V.data.toList]) → Below Wc.heap.size Wc w5 → True from fun _ _ _ _ => trivial)
          go_wp2_with fail
          go_region_law (refine step_append_s (w0 := Wc) rfl (.tmp 41) (.tmp 53) rfl _ Y rfl (by first | exact ownS_drew HO1.out | exact HO1.out) (by first | exact below_drew HBa.out | exact HBa.out) wr.heap.size V V.data.toList 1 rfl rfl (by exact HC.out) HSz.out ?_; intro v' w5 hown1 hb5)
          all_goals
            clear hu s1
            go_wp2_with fail
            go_roundw
            case rel => exact ⟨j + 1, _, by omega, by go_num, HNx, Lib.hid hown1, Lib.hid hb5⟩
            case measure => simp [intOf]; omega
      · have tst : n ≤ j ∨ (j < n ∧ 10 ≤ l) := by omega
        rcases tst with h1 | ⟨h1, h2⟩
        · have d1 : decide ((j : Int) < (n : Int)) = false := decide_eq_false (by omega)
          have HEx := Lib.hid (show ∀ w5 : World, Below Wc.heap.size Wc w5 → w5.cell? ⟨w1.heap.size, 0, none⟩ = some (.string S) from fun w5 hb => by rw [hb.cell (p := ⟨w1.heap.size, 0, none⟩) HL.out]; exact HC0.out)
          have HP := Lib.hid (show Y.length ≤ 11 ∧ 1 ≤ Y.length ∧ HeadOk nm Y ∧ (0 ≤ r → Y.length ≤ m) from ⟨by rw [← HLn.out]; exact hl11, HY.out.1, HY.out.2.2, fun hr => absurd hr (by omega)⟩)
          clear HLn hl11 HY
          clear hgo
          go_wp2_with fail
          go_loopw [7] (fun v wr => ∃ Y : List (List UInt8), Hid (Y.length ≤ 11 ∧ 1 ≤ Y.length ∧ HeadOk nm Y ∧ (0 ≤ r → Y.length ≤ m)) ∧ Hid (OwnS Wc.heap.size wr v Y) ∧ Hid (Below Wc.heap.size Wc wr)) (fun v _ => 12 - lenOf v)
          case atStart => exact ⟨Y, HP, HOw, HB⟩
          case round =>
            clear HOw HB HP
            obtain ⟨Z, HP, HOw, HB⟩ := hrel
            obtain ⟨qz, cz, hv, -⟩ := HOw.out.ss
            subst hv
            obtain ⟨l2, hl2⟩ : ∃ l2, l2 = Z.length := ⟨_, rfl⟩
            have HLn := Lib.hid hl2
            rw [← hl2] at HOw ⊢
            have hl11 : l2 ≤ 11 := by rw [hl2]; exact HP.out.1
            have hc0 := HEx.out _ HB.out
            clear hl2
            have tst : l2 < m ∨ (m ≤ l2 ∧ nm = nMset ∧ l2 % 2 = 0) ∨ (m ≤ l2 ∧ nm = nMset ∧ l2 % 2 = 1) ∨ (m ≤ l2 ∧ nm ≠ nMset) := by
              rcases Nat.lt_or_ge l2 m with h | h
              · exact Or.inl h
              · by_cases hm : nm = nMset
                · rcases Nat.mod_two_eq_zero_or_one l2 with h2 | h2
                  · exact Or.inr (Or.inl ⟨h, hm, h2⟩)
                  · exact Or.inr (Or.inr (Or.inl ⟨h, hm, h2⟩))
                · exact Or.inr (Or.inr (Or.inr ⟨h, hm⟩))
            have HAp := Lib.hid (show (l2 < m ∨ (nm = nMset ∧ l2 % 2 = 0)) → (Z ++ [[49]]).length ≤ 11 ∧ 1 ≤ (Z ++ [[49]]).length ∧ HeadOk nm (Z ++ [[49]]) ∧ (0 ≤ r → (Z ++ [[49]]).length ≤ m) from fun hh => by
              have h := HP.out
              have h2 := HLn.out
              have hmm := HM.out
              have hlen : (Z ++ [([49] : List UInt8)]).length = Z.length + 1 := by rw [List.length_append, List.length_singleton]
              rw [hlen]
              refine ⟨?_, by omega, ?_, fun hr => ?_⟩
              · rcases hh with hh | ⟨-, hh⟩ <;> omega
              · exact h.2.2.1.snoc h.2.1 _ (by simp)
              · rcases hh with hh | ⟨hh, -⟩
                · omega
                · have := hmm hh; omega)
            have HO1 := Lib.hid ((show OwnS Wc.heap.size wr (.slice qz Z.length cz) Z from by rw [← HLn.out]; exact HOw.out).keep (Kit.below1 wr (.cells #[.string ⟨#[49]⟩] 9)))
            rw [← HLn.out] at HO1
            have HC := Lib.hid (show (wr.alloc (.cells #[.string ⟨#[49]⟩] 9)).cell? ⟨wr.heap.size, 0, none⟩ = some (.string ⟨#[49]⟩) by simp [World.cell?_alloc_mark])
            have HBa := Lib.hid (HB.out.alloc HB.out.size (.cells #[.string ⟨#[49]⟩] 9))
            have HSz := Lib.hid (show Z.length ≤ 1048576 by have := HP.out.1; omega)
            have HEnd := Lib.hid (show (m ≤ l2 ∧ ¬ (nm = nMset ∧ l2 % 2 = 0)) → FitP k w (.returned (.slice qz l2 cz)) wr from fun hh => by
              have h := HP.out
              have h2 := HLn.out
              exact ⟨_, Z, rfl, ansS_low (ownS_ans HOw.out) HWc.out.size, HOk.out Z h.1 h.2.2.1 (by omega) h.2.2.2 (by rw [← h2]; exact hh.2), HWc.out.trans (HB.out.mono HWc.out.size)⟩)
            clear HOw HB HP
            rcases tst with h1 | ⟨h1, h2, h3⟩ | ⟨h1, h2, h3⟩ | ⟨h1, h2⟩
            · have e1 : decide ((l2 : Int) < (m : Int)) = true := decide_eq_true (by omega)
              have HNx := Lib.hid (HAp.out (Or.inl h1))
              go_wp2_with (at_builtin; refine wpList_append_s (w0 := Wc) rfl (.tmp 70) (.tmp 71) rfl _ Z rfl HO1.out HBa.out wr.heap.size ⟨#[49]⟩ [49] 1 rfl rfl HC.out HSz.out ?_; intro v' w5 hown1 hb5)
              obtain ⟨q9, c9, hv9, -⟩ := hown1.ss
              have HV9 := Lib.hid (show lenOf v' = l2 + 1 by rw [hv9, HLn.out]; simp [lenOf])
              clear hv9
              go_roundw
              case rel => exact ⟨_, HNx, Lib.hid hown1, Lib.hid hb5⟩
              case measure => rw [HV9.out]; simp [lenOf]; omega
            · have e1 : decide ((l2 : Int) < (m : Int)) = false := decide_eq_false (by omega)
              obtain ⟨e2, e3⟩ := HE.out h2
              unfold nMset at e2 e3
              have e4 : ((l2 : Int) % 2 == 0) = true := by rw [beq_iff_eq]; omega
              have HNx := Lib.hid (HAp.out (Or.inr ⟨h2, h3⟩))
              clear h2 h3
              go_wp2_with (at_builtin; refine wpList_append_s (w0 := Wc) rfl (.tmp 70) (.tmp 71) rfl _ Z rfl HO1.out HBa.out wr.heap.size ⟨#[49]⟩ [49] 1 rfl rfl HC.out HSz.out ?_; intro v' w5 hown1 hb5)
              obtain ⟨q9, c9, hv9, -⟩ := hown1.ss
              have HV9 := Lib.hid (show lenOf v' = l2 + 1 by rw [hv9, HLn.out]; simp [lenOf])
              clear hv9
              go_roundw
              case rel => exact ⟨_, HNx, Lib.hid hown1, Lib.hid hb5⟩
              case measure => rw [HV9.out]; simp [lenOf]; omega
            · have e1 : decide ((l2 : Int) < (m : Int)) = false := decide_eq_false (by omega)
              obtain ⟨e2, e3⟩ := HE.out h2
              unfold nMset at e2 e3
              have e4 : ((l2 : Int) % 2 == 0) = false := by rw [beq_eq_false_iff_ne]; omega
              have HF := Lib.hid (HEnd.out ⟨h1, fun hh => by omega⟩)
              clear h2 h3
              go_wp2_with fail
              go_ret
              exact HF.out
            · have e1 : decide ((l2 : Int) < (m : Int)) = false := decide_eq_false (by omega)
              obtain ⟨e2, e3⟩ := HX.out h2
              unfold nMset at e2 e3
              have HF := Lib.hid (HEnd.out ⟨h1, fun hh => h2 hh.1⟩)
              clear h2
              go_wp2_with fail
              go_ret
              exact HF.out
        · have d1 : decide ((j : Int) < (n : Int)) = true := decide_eq_true (by omega)
          have d2 : decide ((l : Int) < 10) = false := decide_eq_false (by omega)
          have HEx := Lib.hid (show ∀ w5 : World, Below Wc.heap.size Wc w5 → w5.cell? ⟨w1.heap.size, 0, none⟩ = some (.string S) from fun w5 hb => by rw [hb.cell (p := ⟨w1.heap.size, 0, none⟩) HL.out]; exact HC0.out)
          have HP := Lib.hid (show Y.length ≤ 11 ∧ 1 ≤ Y.length ∧ HeadOk nm Y ∧ (0 ≤ r → Y.length ≤ m) from ⟨by rw [← HLn.out]; exact hl11, HY.out.1, HY.out.2.2, fun hr => absurd hr (by omega)⟩)
          clear HLn hl11 HY
          clear hgo
          go_wp2_with fail
          go_loopw [7] (fun v wr => ∃ Y : List (List UInt8), Hid (Y.length ≤ 11 ∧ 1 ≤ Y.length ∧ HeadOk nm Y ∧ (0 ≤ r → Y.length ≤ m)) ∧ Hid (OwnS Wc.heap.size wr v Y) ∧ Hid (Below Wc.heap.size Wc wr)) (fun v _ => 12 - lenOf v)
          case atStart => exact ⟨Y, HP, HOw, HB⟩
          case round =>
            clear HOw HB HP
            obtain ⟨Z, HP, HOw, HB⟩ := hrel
            obtain ⟨qz, cz, hv, -⟩ := HOw.out.ss
            subst hv
            obtain ⟨l2, hl2⟩ : ∃ l2, l2 = Z.length := ⟨_, rfl⟩
            have HLn := Lib.hid hl2
            rw [← hl2] at HOw ⊢
            have hl11 : l2 ≤ 11 := by rw [hl2]; exact HP.out.1
            have hc0 := HEx.out _ HB.out
            clear hl2
            have tst : l2 < m ∨ (m ≤ l2 ∧ nm = nMset ∧ l2 % 2 = 0) ∨ (m ≤ l2 ∧ nm = nMset ∧ l2 % 2 = 1) ∨ (m ≤ l2 ∧ nm ≠ nMset) := by
              rcases Nat.lt_or_ge l2 m with h | h
              · exact Or.inl h
              · by_cases hm : nm = nMset
                · rcases Nat.mod_two_eq_zero_or_one l2 with h2 | h2
                  · exact Or.inr (Or.inl ⟨h, hm, h2⟩)
                  · exact Or.inr (Or.inr (Or.inl ⟨h, hm, h2⟩))
                · exact Or.inr (Or.inr (Or.inr ⟨h, hm⟩))
            have HAp := Lib.hid (show (l2 < m ∨ (nm = nMset ∧ l2 % 2 = 0)) → (Z ++ [[49]]).length ≤ 11 ∧ 1 ≤ (Z ++ [[49]]).length ∧ HeadOk nm (Z ++ [[49]]) ∧ (0 ≤ r → (Z ++ [[49]]).length ≤ m) from fun hh => by
              have h := HP.out
              have h2 := HLn.out
              have hmm := HM.out
              have hlen : (Z ++ [([49] : List UInt8)]).length = Z.length + 1 := by rw [List.length_append, List.length_singleton]
              rw [hlen]
              refine ⟨?_, by omega, ?_, fun hr => ?_⟩
              · rcases hh with hh | ⟨-, hh⟩ <;> omega
              · exact h.2.2.1.snoc h.2.1 _ (by simp)
              · rcases hh with hh | ⟨hh, -⟩
                · omega
                · have := hmm hh; omega)
            have HO1 := Lib.hid ((show OwnS Wc.heap.size wr (.slice qz Z.length cz) Z from by rw [← HLn.out]; exact HOw.out).keep (Kit.below1 wr (.cells #[.string ⟨#[49]⟩] 9)))
            rw [← HLn.out] at HO1
            have HC := Lib.hid (show (wr.alloc (.cells #[.string ⟨#[49]⟩] 9)).cell? ⟨wr.heap.size, 0, none⟩ = some (.string ⟨#[49]⟩) by simp [World.cell?_alloc_mark])
            have HBa := Lib.hid (HB.out.alloc HB.out.size (.cells #[.string ⟨#[49]⟩] 9))
            have HSz := Lib.hid (show Z.length ≤ 1048576 by have := HP.out.1; omega)
            have HEnd := Lib.hid (show (m ≤ l2 ∧ ¬ (nm = nMset ∧ l2 % 2 = 0)) → FitP k w (.returned (.slice qz l2 cz)) wr from fun hh => by
              have h := HP.out
              have h2 := HLn.out
              exact ⟨_, Z, rfl, ansS_low (ownS_ans HOw.out) HWc.out.size, HOk.out Z h.1 h.2.2.1 (by omega) h.2.2.2 (by rw [← h2]; exact hh.2), HWc.out.trans (HB.out.mono HWc.out.size)⟩)
            clear HOw HB HP
            rcases tst with h1 | ⟨h1, h2, h3⟩ | ⟨h1, h2, h3⟩ | ⟨h1, h2⟩
            · have e1 : decide ((l2 : Int) < (m : Int)) = true := decide_eq_true (by omega)
              have HNx := Lib.hid (HAp.out (Or.inl h1))
              go_wp2_with (at_builtin; refine wpList_append_s (w0 := Wc) rfl (.tmp 70) (.tmp 71) rfl _ Z rfl HO1.out HBa.out wr.heap.size ⟨#[49]⟩ [49] 1 rfl rfl HC.out HSz.out ?_; intro v' w5 hown1 hb5)
              obtain ⟨q9, c9, hv9, -⟩ := hown1.ss
              have HV9 := Lib.hid (show lenOf v' = l2 + 1 by rw [hv9, HLn.out]; simp [lenOf])
              clear hv9
              go_roundw
              case rel => exact ⟨_, HNx, Lib.hid hown1, Lib.hid hb5⟩
              case measure => rw [HV9.out]; simp [lenOf]; omega
            · have e1 : decide ((l2 : Int) < (m : Int)) = false := decide_eq_false (by omega)
              obtain ⟨e2, e3⟩ := HE.out h2
              unfold nMset at e2 e3
              have e4 : ((l2 : Int) % 2 == 0) = true := by rw [beq_iff_eq]; omega
              have HNx := Lib.hid (HAp.out (Or.inr ⟨h2, h3⟩))
              clear h2 h3
              go_wp2_with (at_builtin; refine wpList_append_s (w0 := Wc) rfl (.tmp 70) (.tmp 71) rfl _ Z rfl HO1.out HBa.out wr.heap.size ⟨#[49]⟩ [49] 1 rfl rfl HC.out HSz.out ?_; intro v' w5 hown1 hb5)
              obtain ⟨q9, c9, hv9, -⟩ := hown1.ss
              have HV9 := Lib.hid (show lenOf v' = l2 + 1 by rw [hv9, HLn.out]; simp [lenOf])
              clear hv9
              go_roundw
              case rel => exact ⟨_, HNx, Lib.hid hown1, Lib.hid hb5⟩
              case measure => rw [HV9.out]; simp [lenOf]; omega
            · have e1 : decide ((l2 : Int) < (m : Int)) = false := decide_eq_false (by omega)
              obtain ⟨e2, e3⟩ := HE.out h2
              unfold nMset at e2 e3
              have e4 : ((l2 : Int) % 2 == 0) = false := by rw [beq_eq_false_iff_ne]; omega
              have HF := Lib.hid (HEnd.out ⟨h1, fun hh => by omega⟩)
              clear h2 h3
              go_wp2_with fail
              go_ret
              exact HF.out
            · have e1 : decide ((l2 : Int) < (m : Int)) = false := decide_eq_false (by omega)
              obtain ⟨e2, e3⟩ := HX.out h2
              unfold nMset at e2 e3
              have HF := Lib.hid (HEnd.out ⟨h1, fun hh => h2 hh.1⟩)
              clear h2
              go_wp2_with fail
              go_ret
              exact HF.out
  · have d0 : decide (r < 0) = false := decide_eq_false hneg
    go_wp2_with fail
    generalize w1.alloc (.cells #[.string S, .int .i64 r, .int .u16 g] 74) = Wc at HWc HC0 HL HO HBl ⊢
    go_loopw [7, 10] (fun v i wr => ∃ (j : Nat) (Y : List (List UInt8)), j ≤ n ∧ i = .int .i64 j ∧ Hid (1 ≤ Y.length ∧ Y.length ≤ m ∧ HeadOk nm Y) ∧ Hid (OwnS Wc.heap.size wr v Y) ∧ Hid (Below Wc.heap.size Wc wr)) (fun _ i _ => n - (intOf i).toNat)
    case atStart => exact ⟨0, [nm], Nat.zero_le _, rfl, Lib.hid ⟨by simp, by simp <;> omega, HeadOk.one HNm.out⟩, HO, HBl⟩
    case round =>
      obtain ⟨j, Y, hj, rfl, HY, HOw, HB⟩ := hrel
      obtain ⟨qv, cv, hv, -⟩ := HOw.out.ss
      subst hv
      obtain ⟨l, hl⟩ : ∃ l, l = Y.length := ⟨_, rfl⟩
      have HLn := Lib.hid hl
      rw [← hl] at HOw ⊢
      have hl11 : l ≤ 11 := by have := HY.out.2.1; omega
      clear hl
      by_cases hgo : j < n ∧ l < m
      · obtain ⟨hlt, hlm⟩ := hgo
        have d1 : decide ((j : Int) < (n : Int)) = true := decide_eq_true (by omega)
        have d2 : decide ((l : Int) < (m : Int)) = true := decide_eq_true (by omega)
        have hj0 : (0 : Int) ≤ (j : Int) := by omega
        have hjn : (j : Int) < (n : Int) := by omega
        have hjL : j < L.length := by rw [HN.out]; exact hlt
        obtain ⟨b, off, rfl, hbl, hc⟩ := (HS.out.keep (HWc.out.trans (HB.out.mono HWc.out.size))) (by omega)
        have hu := hc j hjL
        obtain ⟨T, hT⟩ : ∃ T : ByteArray, T = ⟨L[j].toArray⟩ := ⟨_, rfl⟩
        have hTz : T.size ≤ 140737488351232 := by rw [hT]; simpa [ByteArray.size] using HZ.out L[j] (List.getElem_mem hjL)
        rw [← hT] at hu
        clear hT hc
        obtain ⟨V, hV⟩ : ∃ V : ByteArray, V = if T.size ≤ 20 then T else T.extract 0 20 := ⟨_, rfl⟩
        have HNx := Lib.hid (show 1 ≤ (Y ++ [V.data.toList]).length ∧ (Y ++ [V.data.toList]).length ≤ m ∧ HeadOk nm (Y ++ [V.data.toList]) from by
          have h := HY.out
          have h2 := HLn.out
          refine ⟨by simp, by rw [List.length_append, List.length_singleton]; omega, ?_⟩
          exact h.2.2.snoc h.1 _ (vlen hV))
        have HSz := Lib.hid (show Y.length ≤ 1048576 by have := HLn.out; omega)
        by_cases h20 : T.size ≤ 20
        · rw [if_pos h20] at hV
          obtain rfl : T = V := hV.symm
          have hmn : ¬ ((20 : Int) < (T.size : Int)) := by omega
          have hmin : min (T.size : Int) 20 = (T.size : Int) := by omega
          have s1 : ∀ W, (Instr.slice 9 (.string T) none (some (.int .i64 (T.size : Int))) none).run Tryd.prog W = .ok (.string T) W := fun W => by
            have h := run_slice_string_h (P := Tryd.prog) W 9 T Tryd.underlying9 .i64 (T.size : Int) (by omega) (by omega)
            rw [h, show ((T.size : Nat) : Int).toNat = T.size from rfl, ByteArray.extract_zero_size]
          clear hV
          have HO1 := Lib.hid ((show OwnS Wc.heap.size wr (.slice qv Y.length cv) Y from by rw [← HLn.out]; exact HOw.out).keep (Kit.below1 wr (.cells #[.string T] 9)))
          rw [← HLn.out] at HO1
          have HC := Lib.hid (show (wr.alloc (.cells #[.string T] 9)).cell? ⟨wr.heap.size, 0, none⟩ = some (.string T) by simp [World.cell?_alloc_mark])
          have HBa := Lib.hid (HB.out.alloc HB.out.size (.cells #[.string T] 9))
          have HRd := Lib.hid (show ∀ v5 w5, OwnS Wc.heap.size w5 v5 (Y ++ [T.data.toList]) → Below Wc.heap.size Wc w5 → True from fun _ _ _ _ => trivial)
          go_wp2_with fail
          go_region_law (refine step_append_s (w0 := Wc) rfl (.tmp 41) (.tmp 53) rfl _ Y rfl (by first | exact ownS_drew HO1.out | exact HO1.out) (by first | exact below_drew HBa.out | exact HBa.out) wr.heap.size T T.data.toList 1 rfl rfl (by exact HC.out) HSz.out ?_; intro v' w5 hown1 hb5)
          all_goals
            clear hu s1
            go_wp2_with fail
            go_roundw
            case rel => exact ⟨j + 1, _, by omega, by go_num, HNx, Lib.hid hown1, Lib.hid hb5⟩
            case measure => simp [intOf]; omega
        · rw [if_neg h20] at hV
          have hmn : (20 : Int) < (T.size : Int) := by omega
          have hmin : min (T.size : Int) 20 = 20 := by omega
          have s1 : ∀ W, (Instr.slice 9 (.string T) none (some (.int .i64 20)) none).run Tryd.prog W = .ok (.string V) W := fun W => by
            have h := run_slice_string_h (P := Tryd.prog) W 9 T Tryd.underlying9 .i64 20 (by omega) (by omega)
            rw [h, hV]
            rfl
          clear hV
          have HO1 := Lib.hid ((show OwnS Wc.heap.size wr (.slice qv Y.length cv) Y from by rw [← HLn.out]; exact HOw.out).keep (Kit.below1 wr (.cells #[.string V] 9)))
          rw [← HLn.out] at HO1
          have HC := Lib.hid (show (wr.alloc (.cells #[.string V] 9)).cell? ⟨wr.heap.size, 0, none⟩ = some (.string V) by simp [World.cell?_alloc_mark])
          have HBa := Lib.hid (HB.out.alloc HB.out.size (.cells #[.string V] 9))
          have HRd := Lib.hid (show ∀ v5 w5, OwnS Wc.heap.size w5 v5 (Y ++ [V.data.toList]) → Below Wc.heap.size Wc w5 → True from fun _ _ _ _ => trivial)
          go_wp2_with fail
          go_region_law (refine step_append_s (w0 := Wc) rfl (.tmp 41) (.tmp 53) rfl _ Y rfl (by first | exact ownS_drew HO1.out | exact HO1.out) (by first | exact below_drew HBa.out | exact HBa.out) wr.heap.size V V.data.toList 1 rfl rfl (by exact HC.out) HSz.out ?_; intro v' w5 hown1 hb5)
          all_goals
            clear hu s1
            go_wp2_with fail
            go_roundw
            case rel => exact ⟨j + 1, _, by omega, by go_num, HNx, Lib.hid hown1, Lib.hid hb5⟩
            case measure => simp [intOf]; omega
      · have tst : n ≤ j ∨ (j < n ∧ m ≤ l) := by omega
        rcases tst with h1 | ⟨h1, h2⟩
        · have d1 : decide ((j : Int) < (n : Int)) = false := decide_eq_false (by omega)
          have HEx := Lib.hid (show ∀ w5 : World, Below Wc.heap.size Wc w5 → w5.cell? ⟨w1.heap.size, 0, none⟩ = some (.string S) from fun w5 hb => by rw [hb.cell (p := ⟨w1.heap.size, 0, none⟩) HL.out]; exact HC0.out)
          have HP := Lib.hid (show Y.length ≤ 11 ∧ 1 ≤ Y.length ∧ HeadOk nm Y ∧ (0 ≤ r → Y.length ≤ m) from ⟨by rw [← HLn.out]; exact hl11, HY.out.1, HY.out.2.2, fun _ => HY.out.2.1⟩)
          clear HLn hl11 HY
          clear hgo
          go_wp2_with fail
          go_loopw [7] (fun v wr => ∃ Y : List (List UInt8), Hid (Y.length ≤ 11 ∧ 1 ≤ Y.length ∧ HeadOk nm Y ∧ (0 ≤ r → Y.length ≤ m)) ∧ Hid (OwnS Wc.heap.size wr v Y) ∧ Hid (Below Wc.heap.size Wc wr)) (fun v _ => 12 - lenOf v)
          case atStart => exact ⟨Y, HP, HOw, HB⟩
          case round =>
            clear HOw HB HP
            obtain ⟨Z, HP, HOw, HB⟩ := hrel
            obtain ⟨qz, cz, hv, -⟩ := HOw.out.ss
            subst hv
            obtain ⟨l2, hl2⟩ : ∃ l2, l2 = Z.length := ⟨_, rfl⟩
            have HLn := Lib.hid hl2
            rw [← hl2] at HOw ⊢
            have hl11 : l2 ≤ 11 := by rw [hl2]; exact HP.out.1
            have hc0 := HEx.out _ HB.out
            clear hl2
            have tst : l2 < m ∨ (m ≤ l2 ∧ nm = nMset ∧ l2 % 2 = 0) ∨ (m ≤ l2 ∧ nm = nMset ∧ l2 % 2 = 1) ∨ (m ≤ l2 ∧ nm ≠ nMset) := by
              rcases Nat.lt_or_ge l2 m with h | h
              · exact Or.inl h
              · by_cases hm : nm = nMset
                · rcases Nat.mod_two_eq_zero_or_one l2 with h2 | h2
                  · exact Or.inr (Or.inl ⟨h, hm, h2⟩)
                  · exact Or.inr (Or.inr (Or.inl ⟨h, hm, h2⟩))
                · exact Or.inr (Or.inr (Or.inr ⟨h, hm⟩))
            have HAp := Lib.hid (show (l2 < m ∨ (nm = nMset ∧ l2 % 2 = 0)) → (Z ++ [[49]]).length ≤ 11 ∧ 1 ≤ (Z ++ [[49]]).length ∧ HeadOk nm (Z ++ [[49]]) ∧ (0 ≤ r → (Z ++ [[49]]).length ≤ m) from fun hh => by
              have h := HP.out
              have h2 := HLn.out
              have hmm := HM.out
              have hlen : (Z ++ [([49] : List UInt8)]).length = Z.length + 1 := by rw [List.length_append, List.length_singleton]
              rw [hlen]
              refine ⟨?_, by omega, ?_, fun hr => ?_⟩
              · rcases hh with hh | ⟨-, hh⟩ <;> omega
              · exact h.2.2.1.snoc h.2.1 _ (by simp)
              · rcases hh with hh | ⟨hh, -⟩
                · omega
                · have := hmm hh; omega)
            have HO1 := Lib.hid ((show OwnS Wc.heap.size wr (.slice qz Z.length cz) Z from by rw [← HLn.out]; exact HOw.out).keep (Kit.below1 wr (.cells #[.string ⟨#[49]⟩] 9)))
            rw [← HLn.out] at HO1
            have HC := Lib.hid (show (wr.alloc (.cells #[.string ⟨#[49]⟩] 9)).cell? ⟨wr.heap.size, 0, none⟩ = some (.string ⟨#[49]⟩) by simp [World.cell?_alloc_mark])
            have HBa := Lib.hid (HB.out.alloc HB.out.size (.cells #[.string ⟨#[49]⟩] 9))
            have HSz := Lib.hid (show Z.length ≤ 1048576 by have := HP.out.1; omega)
            have HEnd := Lib.hid (show (m ≤ l2 ∧ ¬ (nm = nMset ∧ l2 % 2 = 0)) → FitP k w (.returned (.slice qz l2 cz)) wr from fun hh => by
              have h := HP.out
              have h2 := HLn.out
              exact ⟨_, Z, rfl, ansS_low (ownS_ans HOw.out) HWc.out.size, HOk.out Z h.1 h.2.2.1 (by omega) h.2.2.2 (by rw [← h2]; exact hh.2), HWc.out.trans (HB.out.mono HWc.out.size)⟩)
            clear HOw HB HP
            rcases tst with h1 | ⟨h1, h2, h3⟩ | ⟨h1, h2, h3⟩ | ⟨h1, h2⟩
            · have e1 : decide ((l2 : Int) < (m : Int)) = true := decide_eq_true (by omega)
              have HNx := Lib.hid (HAp.out (Or.inl h1))
              go_wp2_with (at_builtin; refine wpList_append_s (w0 := Wc) rfl (.tmp 70) (.tmp 71) rfl _ Z rfl HO1.out HBa.out wr.heap.size ⟨#[49]⟩ [49] 1 rfl rfl HC.out HSz.out ?_; intro v' w5 hown1 hb5)
              obtain ⟨q9, c9, hv9, -⟩ := hown1.ss
              have HV9 := Lib.hid (show lenOf v' = l2 + 1 by rw [hv9, HLn.out]; simp [lenOf])
              clear hv9
              go_roundw
              case rel => exact ⟨_, HNx, Lib.hid hown1, Lib.hid hb5⟩
              case measure => rw [HV9.out]; simp [lenOf]; omega
            · have e1 : decide ((l2 : Int) < (m : Int)) = false := decide_eq_false (by omega)
              obtain ⟨e2, e3⟩ := HE.out h2
              unfold nMset at e2 e3
              have e4 : ((l2 : Int) % 2 == 0) = true := by rw [beq_iff_eq]; omega
              have HNx := Lib.hid (HAp.out (Or.inr ⟨h2, h3⟩))
              clear h2 h3
              go_wp2_with (at_builtin; refine wpList_append_s (w0 := Wc) rfl (.tmp 70) (.tmp 71) rfl _ Z rfl HO1.out HBa.out wr.heap.size ⟨#[49]⟩ [49] 1 rfl rfl HC.out HSz.out ?_; intro v' w5 hown1 hb5)
              obtain ⟨q9, c9, hv9, -⟩ := hown1.ss
              have HV9 := Lib.hid (show lenOf v' = l2 + 1 by rw [hv9, HLn.out]; simp [lenOf])
              clear hv9
              go_roundw
              case rel => exact ⟨_, HNx, Lib.hid hown1, Lib.hid hb5⟩
              case measure => rw [HV9.out]; simp [lenOf]; omega
            · have e1 : decide ((l2 : Int) < (m : Int)) = false := decide_eq_false (by omega)
              obtain ⟨e2, e3⟩ := HE.out h2
              unfold nMset at e2 e3
              have e4 : ((l2 : Int) % 2 == 0) = false := by rw [beq_eq_false_iff_ne]; omega
              have HF := Lib.hid (HEnd.out ⟨h1, fun hh => by omega⟩)
              clear h2 h3
              go_wp2_with fail
              go_ret
              exact HF.out
            · have e1 : decide ((l2 : Int) < (m : Int)) = false := decide_eq_false (by omega)
              obtain ⟨e2, e3⟩ := HX.out h2
              unfold nMset at e2 e3
              have HF := Lib.hid (HEnd.out ⟨h1, fun hh => h2 hh.1⟩)
              clear h2
              go_wp2_with fail
              go_ret
              exact HF.out
        · have d1 : decide ((j : Int) < (n : Int)) = true := decide_eq_true (by omega)
          have d2 : decide ((l : Int) < (m : Int)) = false := decide_eq_false (by omega)
          have d2n : decide (l < m) = false := decide_eq_false (by omega)
          have HEx := Lib.hid (show ∀ w5 : World, Below Wc.heap.size Wc w5 → w5.cell? ⟨w1.heap.size, 0, none⟩ = some (.string S) from fun w5 hb => by rw [hb.cell (p := ⟨w1.heap.size, 0, none⟩) HL.out]; exact HC0.out)
          have HP := Lib.hid (show Y.length ≤ 11 ∧ 1 ≤ Y.length ∧ HeadOk nm Y ∧ (0 ≤ r → Y.length ≤ m) from ⟨by rw [← HLn.out]; exact hl11, HY.out.1, HY.out.2.2, fun _ => HY.out.2.1⟩)
          clear HLn hl11 HY
          clear hgo
          go_wp2_with fail
          go_loopw [7] (fun v wr => ∃ Y : List (List UInt8), Hid (Y.length ≤ 11 ∧ 1 ≤ Y.length ∧ HeadOk nm Y ∧ (0 ≤ r → Y.length ≤ m)) ∧ Hid (OwnS Wc.heap.size wr v Y) ∧ Hid (Below Wc.heap.size Wc wr)) (fun v _ => 12 - lenOf v)
          case atStart => exact ⟨Y, HP, HOw, HB⟩
          case round =>
            clear HOw HB HP
            obtain ⟨Z, HP, HOw, HB⟩ := hrel
            obtain ⟨qz, cz, hv, -⟩ := HOw.out.ss
            subst hv
            obtain ⟨l2, hl2⟩ : ∃ l2, l2 = Z.length := ⟨_, rfl⟩
            have HLn := Lib.hid hl2
            rw [← hl2] at HOw ⊢
            have hl11 : l2 ≤ 11 := by rw [hl2]; exact HP.out.1
            have hc0 := HEx.out _ HB.out
            clear hl2
            have tst : l2 < m ∨ (m ≤ l2 ∧ nm = nMset ∧ l2 % 2 = 0) ∨ (m ≤ l2 ∧ nm = nMset ∧ l2 % 2 = 1) ∨ (m ≤ l2 ∧ nm ≠ nMset) := by
              rcases Nat.lt_or_ge l2 m with h | h
              · exact Or.inl h
              · by_cases hm : nm = nMset
                · rcases Nat.mod_two_eq_zero_or_one l2 with h2 | h2
                  · exact Or.inr (Or.inl ⟨h, hm, h2⟩)
                  · exact Or.inr (Or.inr (Or.inl ⟨h, hm, h2⟩))
                · exact Or.inr (Or.inr (Or.inr ⟨h, hm⟩))
            have HAp := Lib.hid (show (l2 < m ∨ (nm = nMset ∧ l2 % 2 = 0)) → (Z ++ [[49]]).length ≤ 11 ∧ 1 ≤ (Z ++ [[49]]).length ∧ HeadOk nm (Z ++ [[49]]) ∧ (0 ≤ r → (Z ++ [[49]]).length ≤ m) from fun hh => by
              have h := HP.out
              have h2 := HLn.out
              have hmm := HM.out
              have hlen : (Z ++ [([49] : List UInt8)]).length = Z.length + 1 := by rw [List.length_append, List.length_singleton]
              rw [hlen]
              refine ⟨?_, by omega, ?_, fun hr => ?_⟩
              · rcases hh with hh | ⟨-, hh⟩ <;> omega
              · exact h.2.2.1.snoc h.2.1 _ (by simp)
              · rcases hh with hh | ⟨hh, -⟩
                · omega
                · have := hmm hh; omega)
            have HO1 := Lib.hid ((show OwnS Wc.heap.size wr (.slice qz Z.length cz) Z from by rw [← HLn.out]; exact HOw.out).keep (Kit.below1 wr (.cells #[.string ⟨#[49]⟩] 9)))
            rw [← HLn.out] at HO1
            have HC := Lib.hid (show (wr.alloc (.cells #[.string ⟨#[49]⟩] 9)).cell? ⟨wr.heap.size, 0, none⟩ = some (.string ⟨#[49]⟩) by simp [World.cell?_alloc_mark])
            have HBa := Lib.hid (HB.out.alloc HB.out.size (.cells #[.string ⟨#[49]⟩] 9))
            have HSz := Lib.hid (show Z.length ≤ 1048576 by have := HP.out.1; omega)
            have HEnd := Lib.hid (show (m ≤ l2 ∧ ¬ (nm = nMset ∧ l2 % 2 = 0)) → FitP k w (.returned (.slice qz l2 cz)) wr from fun hh => by
              have h := HP.out
              have h2 := HLn.out
              exact ⟨_, Z, rfl, ansS_low (ownS_ans HOw.out) HWc.out.size, HOk.out Z h.1 h.2.2.1 (by omega) h.2.2.2 (by rw [← h2]; exact hh.2), HWc.out.trans (HB.out.mono HWc.out.size)⟩)
            clear HOw HB HP
            rcases tst with h1 | ⟨h1, h2, h3⟩ | ⟨h1, h2, h3⟩ | ⟨h1, h2⟩
            · have e1 : decide ((l2 : Int) < (m : Int)) = true := decide_eq_true (by omega)
              have HNx := Lib.hid (HAp.out (Or.inl h1))
              go_wp2_with (at_builtin; refine wpList_append_s (w0 := Wc) rfl (.tmp 70) (.tmp 71) rfl _ Z rfl HO1.out HBa.out wr.heap.size ⟨#[49]⟩ [49] 1 rfl rfl HC.out HSz.out ?_; intro v' w5 hown1 hb5)
              obtain ⟨q9, c9, hv9, -⟩ := hown1.ss
              have HV9 := Lib.hid (show lenOf v' = l2 + 1 by rw [hv9, HLn.out]; simp [lenOf])
              clear hv9
              go_roundw
              case rel => exact ⟨_, HNx, Lib.hid hown1, Lib.hid hb5⟩
              case measure => rw [HV9.out]; simp [lenOf]; omega
            · have e1 : decide ((l2 : Int) < (m : Int)) = false := decide_eq_false (by omega)
              obtain ⟨e2, e3⟩ := HE.out h2
              unfold nMset at e2 e3
              have e4 : ((l2 : Int) % 2 == 0) = true := by rw [beq_iff_eq]; omega
              have HNx := Lib.hid (HAp.out (Or.inr ⟨h2, h3⟩))
              clear h2 h3
              go_wp2_with (at_builtin; refine wpList_append_s (w0 := Wc) rfl (.tmp 70) (.tmp 71) rfl _ Z rfl HO1.out HBa.out wr.heap.size ⟨#[49]⟩ [49] 1 rfl rfl HC.out HSz.out ?_; intro v' w5 hown1 hb5)
              obtain ⟨q9, c9, hv9, -⟩ := hown1.ss
              have HV9 := Lib.hid (show lenOf v' = l2 + 1 by rw [hv9, HLn.out]; simp [lenOf])
              clear hv9
              go_roundw
              case rel => exact ⟨_, HNx, Lib.hid hown1, Lib.hid hb5⟩
              case measure => rw [HV9.out]; simp [lenOf]; omega
            · have e1 : decide ((l2 : Int) < (m : Int)) = false := decide_eq_false (by omega)
              obtain ⟨e2, e3⟩ := HE.out h2
              unfold nMset at e2 e3
              have e4 : ((l2 : Int) % 2 == 0) = false := by rw [beq_eq_false_iff_ne]; omega
              have HF := Lib.hid (HEnd.out ⟨h1, fun hh => by omega⟩)
              clear h2 h3
              go_wp2_with fail
              go_ret
              exact HF.out
            · have e1 : decide ((l2 : Int) < (m : Int)) = false := decide_eq_false (by omega)
              obtain ⟨e2, e3⟩ := HX.out h2
              unfold nMset at e2 e3
              have HF := Lib.hid (HEnd.out ⟨h1, fun hh => h2 hh.1⟩)
              clear h2
              go_wp2_with fail
              go_ret
              exact HF.out

end Go.Proofs.YtodpocciimbjbaaDoor.FitT
