/-
  TableKinds: each command is of one kind, and all commands are.
-/
import Derived.Test.YthmkcdlchkdehaaTableLaw
import Derived.Test.YthmkcdlchkdehaaTableBits
namespace Go.Proofs.Ythmkcdlchkdehaa.tableKinds
open Go.RowKit Kit TableMath Low StrT TableM TableL
set_option linter.unusedVariables false
set_option maxRecDepth 100000
-- ASKS: 

set_option maxHeartbeats 4000000 in
theorem walk0 (n : Nat) (w : World) (hn : n ≤ 255) :
    Calls Try.prog 5 #[.int .u8 (n : Int)] w fun e w' => e = .returned (.bool true) ∧ Below w.heap.size w w' := by
  have C0 := Lib.hid (shown_any w)
  have CR := Lib.hid (fun W => cat_any ⟨#[114, 101, 97, 100]⟩ W (by decide))
  have CW := Lib.hid (fun W => cat_any ⟨#[119, 114, 105, 116, 101]⟩ W (by decide))
  have e0 := cat_at 0 (by decide)
  have e1 := cat_at 1 (by decide)
  rw [show (⟨#[114, 101, 97, 100]⟩ : ByteArray).data.toList = catAt 0 from rfl, e0.1, e0.2] at CR
  rw [show (⟨#[119, 114, 105, 116, 101]⟩ : ByteArray).data.toList = catAt 1 from rfl, e1.1, e1.2] at CW
  have CS := Lib.hid (fun W => cats_any W)
  obtain ⟨id, hid⟩ : ∃ id : Nat, (n : Int) % 56 = (id : Int) := ⟨n % 56, by omega⟩
  have hid56 : id < 56 := by omega
  have hra := rw_apart
  have hrw := rw_at id hid56
  have hl0 := mk_lt 0
  have hl1 := mk_lt 1
  obtain ⟨R, hR⟩ : ∃ R, R = mk 0 := ⟨_, rfl⟩
  obtain ⟨V, hV⟩ : ∃ V, V = mk 1 := ⟨_, rfl⟩
  rw [← hR] at CR hra hrw hl0
  rw [← hV] at CW hra hrw hl1
  have z0 : (bits .and .u64 (R : Int) (V : Int)) = 0 := by rw [and2 R V hl0 hl1, hra]; rfl
  have hor := or2 R V hl0 hl1
  have hb1' := and1 (R ||| V) id hor.2
  obtain ⟨U, hU⟩ : ∃ U, U = R ||| V := ⟨_, rfl⟩
  rw [← hU] at hor hb1' hrw
  have zor := hor.1
  have HBit := Lib.hid hb1'
  have HSum := Lib.hid (sum_one id hid56)
  obtain ⟨bt, hbt⟩ : ∃ bt, bt = bitN U id := ⟨_, rfl⟩
  rw [← hbt] at hb1' hrw
  have hbt2 : bt < 2 := by rw [hbt]; exact bitN_lt U id
  have hfin : (((bt : Int) == 1) == decide ((id : Int) < 43)) = true := by
    have e : ((bt : Int) == 1) = decide ((id : Int) < 43) := by
      rw [Bool.eq_iff_iff, beq_iff_eq, decide_eq_true_eq]
      have h1 : (bt : Int) = 1 ↔ bt = 1 := by omega
      have h2 : (id : Int) < 43 ↔ id < 43 := by omega
      rw [h1, h2, hrw]
    rw [e]
    exact beq_self_eq_true _
  clear e0 e1 hR hV hra hrw hU hor hbt
  go_enter Try.func5, Try.ntmps5
  go_wp2_with fail
  refine C0.out.mono ?_
  rintro e w1 ⟨rfl, hb1⟩
  have HB1 := Lib.hid hb1
  clear hb1 C0
  go_wp2_with fail
  simp only [hid]
  refine (CR.out _).mono ?_
  rintro e w2 ⟨rfl, hb2⟩
  have HB2 := Lib.hid (HB1.out.trans (hb2.mono HB1.out.size))
  clear hb2 CR HB1
  go_wp2_with fail
  refine (CW.out _).mono ?_
  rintro e w3 ⟨rfl, hb3⟩
  have HB3 := Lib.hid (HB2.out.trans (hb3.mono HB2.out.size))
  clear hb3 CW HB2 hid
  go_wp2_with fail
  refine (CS.out _).mono ?_
  rintro e w4 ⟨b, o, c, rfl, hs4, hb4⟩
  have HB4 := Lib.hid (HB3.out.trans (hb4.mono HB3.out.size))
  have HS4 := Lib.hid hs4
  clear hb4 CS HB3 hs4
  go_wp2_with fail
  go_loopw [9, 11] (fun m i wr => ∃ k : Nat, 2 ≤ k ∧ k ≤ 12 ∧ i = .int .i64 k ∧ m = .int .i64 (sumB id k : Int) ∧ Hid (Below w.heap.size w wr) ∧ Hid (Below w4.heap.size w4 wr)) (fun _ i _ => 12 - (intOf i).toNat)
  case atStart => exact ⟨2, by decide, by decide, rfl, rfl, HB4, Lib.hid (Below.refl _ _)⟩
  case round =>
    obtain ⟨k, hk2, hk, rfl, rfl, HB, HBr⟩ := hrel
    by_cases hlt : k < 12
    · have d1 : decide ((k : Int) < 12) = true := decide_eq_true (by omega)
      obtain ⟨b', o', e1, hbl, hc⟩ := (HS4.out.keep HBr.out) (by decide)
      injection e1 with e1
      injection e1 with e2 e3 e4
      subst e2 e3
      have hu := hc k (by rw [cats_len]; exact hlt)
      obtain ⟨S, hS⟩ : ∃ S : ByteArray, S = ⟨(cats[k]'(by rw [cats_len]; exact hlt)).toArray⟩ := ⟨_, rfl⟩
      rw [← hS] at hu
      have hSd : S.data.toList = catAt k := by rw [hS, catAt_get k hlt]
      have hSz : S.size ≤ 100 := by
        have h1 : (catAt k).length ≤ 100 := by
          have hall : ∀ x ∈ cats, x.length ≤ 100 := by decide
          rw [catAt_get k hlt]
          exact hall _ (List.getElem_mem _)
        rw [← hSd] at h1
        simpa using h1
      have CC := Lib.hid (cat_any S wr (by omega))
      have hca := cat_at k hlt
      rw [hSd, hca.1, hca.2] at CC
      have hmk := mk_lt k
      have hnx := sum_step id k hk2
      have hsl := sum_le id k
      have hbl2 := bitN_lt (mk k) id
      obtain ⟨M, hM⟩ : ∃ M, M = mk k := ⟨_, rfl⟩
      rw [← hM] at CC hmk hnx hbl2
      have ha := and1 M id hmk
      obtain ⟨q, hq⟩ : ∃ q, q = bitN M id := ⟨_, rfl⟩
      rw [← hq] at ha hnx hbl2
      have HNx := Lib.hid hnx
      obtain ⟨s, hs⟩ : ∃ s, s = sumB id k := ⟨_, rfl⟩
      rw [← hs] at hsl HNx ⊢
      clear hS hc hSd hSz hca hM hq hnx hs
      go_wp2_with fail
      refine CC.out.mono ?_
      rintro e w5 ⟨rfl, hb5⟩
      have HB5 := Lib.hid (HB.out.trans (hb5.mono HB.out.size))
      have HBr5 := Lib.hid (HBr.out.trans (hb5.mono HBr.out.size))
      clear hb5 CC HB HBr
      go_wp2_with fail
      go_roundw
      case rel => exact ⟨k + 1, by omega, by omega, by go_num, by rw [HNx.out]; rfl, HB5, HBr5⟩
      case measure => simp [intOf]; omega
    · have d1 : decide ((k : Int) < 12) = false := decide_eq_false (by omega)
      obtain rfl : k = 12 := by omega
      rw [HSum.out]
      go_wp2_with fail
      go_ret
      exact ⟨rfl, HB.out⟩

theorem walk (n : Int) (w : World) (h0 : 0 ≤ n) (h1 : n ≤ 255) :
    Calls Try.prog 5 #[.int .u8 n] w fun e w' => e = .returned (.bool true) ∧ Below w.heap.size w w' := by
  obtain ⟨k, rfl⟩ := Int.eq_ofNat_of_zero_le h0
  exact walk0 k w (by omega)

end Go.Proofs.Ythmkcdlchkdehaa.tableKinds
