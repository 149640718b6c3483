/-
  The walk of the law NumWords: two words, one behind the other, are one; letters are made small part by part.
-/
-- ASKS: NumL.Gd
import Derived.Test.YtioleajmfgglhaaDoorNumLib
namespace Go.Proofs.YtioleajmfgglhaaDoor.numWords
set_option linter.unusedVariables false
open Go.RowKit Kit NumMath NumW NumL

theorem word_app {l r : List UInt8} (h1 : wordB l = true) (h2 : wordB r = true) : wordB (l ++ r) = true := by
  unfold wordB at *
  simp only [Bool.and_eq_true] at *
  rw [List.all_append, h1.1, h2.1]
  cases l <;> simp_all
theorem word_blank (l r : List UInt8) : wordB (l ++ 32 :: r) = false := by
  unfold wordB
  have : (l ++ 32 :: r).all okByte = false := by
    rw [List.all_eq_false]
    exact ⟨32, by simp, by decide⟩
  rw [this]
  rfl
theorem word_part {l r : List UInt8} (h : wordB (l ++ r) = true) (hne : l ≠ []) : wordB l = true := by
  unfold wordB at *
  simp only [Bool.and_eq_true] at *
  rw [List.all_append, Bool.and_eq_true] at h
  refine ⟨h.1.1, ?_⟩
  cases l
  · exact absurd rfl hne
  · rfl
theorem lowL_app (l r : List UInt8) : lowL (l ++ r) = lowL l ++ lowL r := by simp [lowL]

theorem walk_short (a b x y : ByteArray) (p q pq em : Bool) (w : World) (hx : x.size ≤ 60) (hy : y.size ≤ 60) (hg : Gd w)
    (ca : ∀ W, Calls Tryd.prog 11 #[.string a] W fun e w' => e = .returned (.string x) ∧ W = w')
    (cb : ∀ W, Calls Tryd.prog 11 #[.string b] W fun e w' => e = .returned (.string y) ∧ W = w')
    (hp : wordB x.data.toList = p) (hq : wordB y.data.toList = q) (hpq : wordB (x ++ y).data.toList = pq) (hem : x.toList.isEmpty = em)
    (h1 : p = true → q = true → pq = true) (h2 : pq = true → em = false → p = true) (h3 : p = true → em = false) :
    Calls Tryd.prog 9 #[.string a, .string b] w fun e w' => e = .returned (.bool true) ∧ Below w.heap.size w w' := by
  have CA := Lib.hid ca
  have CB := Lib.hid cb
  have G := Lib.hid hg
  have hsz : (x ++ y).size ≤ maxLen := by rw [ByteArray.size_append]; unfold maxLen; omega
  have CX := fun W => word_any x W (by unfold maxLen; omega)
  have CY := fun W => word_any y W (by unfold maxLen; omega)
  have CXY := fun W => word_any (x ++ y) W hsz
  rw [hp] at CX
  rw [hq] at CY
  rw [hpq] at CXY
  replace CX := Lib.hid CX
  replace CY := Lib.hid CY
  replace CXY := Lib.hid CXY
  have CS := Lib.hid (fun (S : ByteArray) (hS : S.data.toList = x.data.toList ++ 32 :: y.data.toList) (hz : S.size ≤ maxLen) W => (show Calls Tryd.prog 20 #[.string S] W fun e w' => e = .returned (.bool false) ∧ W = w' from by
    have := word_any S W hz
    rw [hS, word_blank] at this
    exact this))
  have CE := Lib.hid (fun W => (show Calls Tryd.prog 20 #[.string ⟨#[]⟩] W fun e w' => e = .returned (.bool false) ∧ W = w' from word_any ⟨#[]⟩ W (by decide)))
  obtain ⟨lx, hlx⟩ : ∃ lx : ByteArray, (⟨(lowL x.data.toList).toArray⟩ : ByteArray) = lx := ⟨_, rfl⟩
  obtain ⟨ly, hly⟩ : ∃ ly : ByteArray, (⟨(lowL y.data.toList).toArray⟩ : ByteArray) = ly := ⟨_, rfl⟩
  have CL := fun W => lower_any (x ++ y) W hsz
  rw [show (⟨(lowL (x ++ y).data.toList).toArray⟩ : ByteArray) = lx ++ ly by
    apply ByteArray.ext
    apply Array.toList_inj.1
    rw [← hlx, ← hly]
    simp [lowL]] at CL
  replace CL := Lib.hid CL
  have CLX := fun W => lower_any x W (by unfold maxLen; omega)
  have CLY := fun W => lower_any y W (by unfold maxLen; omega)
  rw [hlx] at CLX
  rw [hly] at CLY
  replace CLX := Lib.hid CLX
  replace CLY := Lib.hid CLY
  have hlxz : lx.size ≤ 60 := by rw [← hlx]; show (List.toArray (lowL x.data.toList)).size ≤ 60; rw [List.size_toArray, lowL, List.length_map]; simpa using hx
  have hlyz : ly.size ≤ 60 := by rw [← hly]; show (List.toArray (lowL y.data.toList)).size ≤ 60; rw [List.size_toArray, lowL, List.length_map]; simpa using hy
  have hem2 : (x.toList == []) = em := by rw [← hem]; cases x.toList <;> rfl
  clear ca cb hg hp hq hpq hlx hly
  cases p
  · clear h1 h3
    cases pq
    · clear h2
      go_enter Tryd.func9, Tryd.ntmps9
      go_wp2_with fail
      with_reducible refine (shown_any _ G.out).mono ?_
      rintro e w1 ⟨rfl, hb⟩
      go_wp2_with fail
      with_reducible refine (CA.out _).mono ?_
      rintro e w2 ⟨rfl, rfl⟩
      go_wp2_with fail
      with_reducible refine (CB.out _).mono ?_
      rintro e w2 ⟨rfl, rfl⟩
      go_wp2_with fail
      with_reducible refine (CX.out _).mono ?_
      rintro e w2 ⟨rfl, rfl⟩
      go_wp2_with fail
      with_reducible refine (CS.out _ (by simp) (by rw [ByteArray.size_append, ByteArray.size_append, show (⟨#[32]⟩ : ByteArray).size = 1 from rfl]; unfold maxLen; omega) _).mono ?_
      rintro e w2 ⟨rfl, rfl⟩
      go_wp2_with fail
      with_reducible refine (CE.out _).mono ?_
      rintro e w2 ⟨rfl, rfl⟩
      go_wp2_with fail
      with_reducible refine (CL.out _).mono ?_
      rintro e w3 ⟨rfl, hbn⟩
      replace hb := hb.trans (hbn.mono hb.size)
      clear hbn
      go_wp2_with fail
      with_reducible refine (CLX.out _).mono ?_
      rintro e w4 ⟨rfl, hbn⟩
      replace hb := hb.trans (hbn.mono hb.size)
      clear hbn
      go_wp2_with fail
      with_reducible refine (CLY.out _).mono ?_
      rintro e w5 ⟨rfl, hbn⟩
      replace hb := hb.trans (hbn.mono hb.size)
      clear hbn
      go_wp2_with fail
      with_reducible refine (CXY.out _).mono ?_
      rintro e w2 ⟨rfl, rfl⟩
      go_wp2
      go_ret
      exact ⟨rfl, hb⟩
    · have he : em = true := by
        cases em
        · exact absurd (h2 rfl rfl) (by decide)
        · rfl
      subst he
      clear h2
      go_enter Tryd.func9, Tryd.ntmps9
      go_wp2_with fail
      with_reducible refine (shown_any _ G.out).mono ?_
      rintro e w1 ⟨rfl, hb⟩
      go_wp2_with fail
      with_reducible refine (CA.out _).mono ?_
      rintro e w2 ⟨rfl, rfl⟩
      go_wp2_with fail
      with_reducible refine (CB.out _).mono ?_
      rintro e w2 ⟨rfl, rfl⟩
      go_wp2_with fail
      with_reducible refine (CX.out _).mono ?_
      rintro e w2 ⟨rfl, rfl⟩
      go_wp2_with fail
      with_reducible refine (CS.out _ (by simp) (by rw [ByteArray.size_append, ByteArray.size_append, show (⟨#[32]⟩ : ByteArray).size = 1 from rfl]; unfold maxLen; omega) _).mono ?_
      rintro e w2 ⟨rfl, rfl⟩
      go_wp2_with fail
      with_reducible refine (CE.out _).mono ?_
      rintro e w2 ⟨rfl, rfl⟩
      go_wp2_with fail
      with_reducible refine (CL.out _).mono ?_
      rintro e w3 ⟨rfl, hbn⟩
      replace hb := hb.trans (hbn.mono hb.size)
      clear hbn
      go_wp2_with fail
      with_reducible refine (CLX.out _).mono ?_
      rintro e w4 ⟨rfl, hbn⟩
      replace hb := hb.trans (hbn.mono hb.size)
      clear hbn
      go_wp2_with fail
      with_reducible refine (CLY.out _).mono ?_
      rintro e w5 ⟨rfl, hbn⟩
      replace hb := hb.trans (hbn.mono hb.size)
      clear hbn
      go_wp2_with fail
      with_reducible refine (CXY.out _).mono ?_
      rintro e w2 ⟨rfl, rfl⟩
      go_wp2
      go_ret
      exact ⟨rfl, hb⟩
  · have he : em = false := h3 rfl
    subst he
    clear h3 h2
    cases q
    · clear h1
      cases pq
      · skip
        go_enter Tryd.func9, Tryd.ntmps9
        go_wp2_with fail
        with_reducible refine (shown_any _ G.out).mono ?_
        rintro e w1 ⟨rfl, hb⟩
        go_wp2_with fail
        with_reducible refine (CA.out _).mono ?_
        rintro e w2 ⟨rfl, rfl⟩
        go_wp2_with fail
        with_reducible refine (CB.out _).mono ?_
        rintro e w2 ⟨rfl, rfl⟩
        go_wp2_with fail
        with_reducible refine (CX.out _).mono ?_
        rintro e w2 ⟨rfl, rfl⟩
        go_wp2_with fail
        with_reducible refine (CY.out _).mono ?_
        rintro e w2 ⟨rfl, rfl⟩
        go_wp2_with fail
        with_reducible refine (CS.out _ (by simp) (by rw [ByteArray.size_append, ByteArray.size_append, show (⟨#[32]⟩ : ByteArray).size = 1 from rfl]; unfold maxLen; omega) _).mono ?_
        rintro e w2 ⟨rfl, rfl⟩
        go_wp2_with fail
        with_reducible refine (CE.out _).mono ?_
        rintro e w2 ⟨rfl, rfl⟩
        go_wp2_with fail
        with_reducible refine (CL.out _).mono ?_
        rintro e w3 ⟨rfl, hbn⟩
        replace hb := hb.trans (hbn.mono hb.size)
        clear hbn
        go_wp2_with fail
        with_reducible refine (CLX.out _).mono ?_
        rintro e w4 ⟨rfl, hbn⟩
        replace hb := hb.trans (hbn.mono hb.size)
        clear hbn
        go_wp2_with fail
        with_reducible refine (CLY.out _).mono ?_
        rintro e w5 ⟨rfl, hbn⟩
        replace hb := hb.trans (hbn.mono hb.size)
        clear hbn
        go_wp2_with fail
        with_reducible refine (CXY.out _).mono ?_
        rintro e w2 ⟨rfl, rfl⟩
        go_wp2
        go_ret
        exact ⟨rfl, hb⟩
      · skip
        go_enter Tryd.func9, Tryd.ntmps9
        go_wp2_with fail
        with_reducible refine (shown_any _ G.out).mono ?_
        rintro e w1 ⟨rfl, hb⟩
        go_wp2_with fail
        with_reducible refine (CA.out _).mono ?_
        rintro e w2 ⟨rfl, rfl⟩
        go_wp2_with fail
        with_reducible refine (CB.out _).mono ?_
        rintro e w2 ⟨rfl, rfl⟩
        go_wp2_with fail
        with_reducible refine (CX.out _).mono ?_
        rintro e w2 ⟨rfl, rfl⟩
        go_wp2_with fail
        with_reducible refine (CY.out _).mono ?_
        rintro e w2 ⟨rfl, rfl⟩
        go_wp2_with fail
        with_reducible refine (CS.out _ (by simp) (by rw [ByteArray.size_append, ByteArray.size_append, show (⟨#[32]⟩ : ByteArray).size = 1 from rfl]; unfold maxLen; omega) _).mono ?_
        rintro e w2 ⟨rfl, rfl⟩
        go_wp2_with fail
        with_reducible refine (CE.out _).mono ?_
        rintro e w2 ⟨rfl, rfl⟩
        go_wp2_with fail
        with_reducible refine (CL.out _).mono ?_
        rintro e w3 ⟨rfl, hbn⟩
        replace hb := hb.trans (hbn.mono hb.size)
        clear hbn
        go_wp2_with fail
        with_reducible refine (CLX.out _).mono ?_
        rintro e w4 ⟨rfl, hbn⟩
        replace hb := hb.trans (hbn.mono hb.size)
        clear hbn
        go_wp2_with fail
        with_reducible refine (CLY.out _).mono ?_
        rintro e w5 ⟨rfl, hbn⟩
        replace hb := hb.trans (hbn.mono hb.size)
        clear hbn
        go_wp2_with fail
        with_reducible refine (CXY.out _).mono ?_
        rintro e w2 ⟨rfl, rfl⟩
        go_wp2_with fail
        with_reducible refine (CX.out _).mono ?_
        rintro e w2 ⟨rfl, rfl⟩
        go_wp2
        go_ret
        exact ⟨rfl, hb⟩
    · have he : pq = true := h1 rfl rfl
      subst he
      clear h1
      go_enter Tryd.func9, Tryd.ntmps9
      go_wp2_with fail
      with_reducible refine (shown_any _ G.out).mono ?_
      rintro e w1 ⟨rfl, hb⟩
      go_wp2_with fail
      with_reducible refine (CA.out _).mono ?_
      rintro e w2 ⟨rfl, rfl⟩
      go_wp2_with fail
      with_reducible refine (CB.out _).mono ?_
      rintro e w2 ⟨rfl, rfl⟩
      go_wp2_with fail
      with_reducible refine (CX.out _).mono ?_
      rintro e w2 ⟨rfl, rfl⟩
      go_wp2_with fail
      with_reducible refine (CY.out _).mono ?_
      rintro e w2 ⟨rfl, rfl⟩
      go_wp2_with fail
      with_reducible refine (CXY.out _).mono ?_
      rintro e w2 ⟨rfl, rfl⟩
      go_wp2_with fail
      with_reducible refine (CS.out _ (by simp) (by rw [ByteArray.size_append, ByteArray.size_append, show (⟨#[32]⟩ : ByteArray).size = 1 from rfl]; unfold maxLen; omega) _).mono ?_
      rintro e w2 ⟨rfl, rfl⟩
      go_wp2_with fail
      with_reducible refine (CE.out _).mono ?_
      rintro e w2 ⟨rfl, rfl⟩
      go_wp2_with fail
      with_reducible refine (CL.out _).mono ?_
      rintro e w3 ⟨rfl, hbn⟩
      replace hb := hb.trans (hbn.mono hb.size)
      clear hbn
      go_wp2_with fail
      with_reducible refine (CLX.out _).mono ?_
      rintro e w4 ⟨rfl, hbn⟩
      replace hb := hb.trans (hbn.mono hb.size)
      clear hbn
      go_wp2_with fail
      with_reducible refine (CLY.out _).mono ?_
      rintro e w5 ⟨rfl, hbn⟩
      replace hb := hb.trans (hbn.mono hb.size)
      clear hbn
      go_wp2_with fail
      with_reducible refine (CXY.out _).mono ?_
      rintro e w2 ⟨rfl, rfl⟩
      go_wp2_with fail
      with_reducible refine (CX.out _).mono ?_
      rintro e w2 ⟨rfl, rfl⟩
      go_wp2
      go_ret
      exact ⟨rfl, hb⟩

theorem walk (a b : ByteArray) (w : World) (za : a.size ≤ 140737488351232) (zb : b.size ≤ 140737488351232) (hg : Gd w) :
    Calls Tryd.prog 9 #[.string a, .string b] w fun e w' => e = .returned (.bool true) ∧ Below w.heap.size w w' := by
  refine walk_short a b (shortS a) (shortS b) _ _ _ _ w (shortS_size a) (shortS_size b) hg (fun W => short_any a W za) (fun W => short_any b W zb) rfl rfl rfl rfl ?_ ?_ ?_
  · intro h1 h2
    rw [show (shortS a ++ shortS b).data.toList = (shortS a).data.toList ++ (shortS b).data.toList by simp]
    exact word_app h1 h2
  · intro h1 h2
    rw [show (shortS a ++ shortS b).data.toList = (shortS a).data.toList ++ (shortS b).data.toList by simp] at h1
    refine word_part h1 ?_
    rw [ByteArray.toList_eq] at h2
    intro e
    rw [e] at h2
    exact absurd h2 (by decide)
  · intro h
    rw [ByteArray.toList_eq]
    unfold wordB at h
    simp only [Bool.and_eq_true, Bool.not_eq_true'] at h
    exact h.2
end Go.Proofs.YtioleajmfgglhaaDoor.numWords
