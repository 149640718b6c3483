/-
  UsesAll: what any request needs is as the document says.
-/
import Derived.Test.YtonoelpmmjnpeaaUseLaw
import Derived.Test.YtonoelpmmjnpeaaStrSame
import Derived.Deep.RegionHeld
namespace Go.Proofs.Ytonoelpmmjnpeaa.usesAll
open Go.RowKit Kit StrT UseT TableMath Low UseM RefU UseL
set_option linter.unusedVariables false
set_option maxRecDepth 100000
-- ASKS: 

/-- What a row of keys that are read, or written, comes to, beside what was there. -/
def RdP (R : List (List UInt8)) (nR : Nat) (w7 W : World) (e : Ending) (w' : World) : Prop := ∃ p cc, e = .returned (.slice p nR cc) ∧ Ss w' p R ∧ Below W.heap.size W w' ∧ Below w7.heap.size w7 w'
theorem rd_of {R : List (List UInt8)} {nR : Nat} {w7 W : World} {e : Ending} {w' : World} (hn : R.length = nR) (h : TextsP R W e w') (hb : Below w7.heap.size w7 W) : RdP R nR w7 W e w' := by
  subst hn
  obtain ⟨v, rfl, ⟨q, c, rfl, hS, -⟩, hk⟩ := h
  exact ⟨q, c, rfl, hS, hk, hb.trans (hk.mono hb.size)⟩

set_option maxHeartbeats 8000000 in
theorem walk (q : Option Addr) (L : List (List UInt8)) (n c : Nat) (w : World) (hL : L.length = n) (h : Ss w q L) (hz : ∀ s ∈ L, s.length ≤ 140737488351232) (hc : n ≤ c) (hcm : c ≤ 9223372036854775807) (hnil : q = none → c = 0) :
    Calls Try.prog 3 #[.slice q n c] w fun e w' => e = .returned (.bool true) ∧ Below w.heap.size w w' := by
  have C0 := Lib.hid (shown_any w)
  have CF := Lib.hid (fun W => few_any q n c W hc hcm)
  obtain ⟨M, hM⟩ : ∃ M, M = L.take 40 := ⟨_, rfl⟩
  obtain ⟨m, hm⟩ : ∃ m, m = min n 40 := ⟨_, rfl⟩
  rw [← hm] at CF
  have hMl : M.length = m := by rw [hM, hm, List.length_take, hL]; omega
  have hMs : Ss w q M := by rw [hM]; exact h.take 40
  have hMz : (M.getD 0 []).length ≤ 140737488351232 := by
    cases hMe : M with
    | nil => simp
    | cons a r => exact hz a (by have : a ∈ M := by rw [hMe]; simp
                                 rw [hM] at this; exact List.mem_of_mem_take this)
  have CO := Lib.hid (fun W (hb : Below w.heap.size w W) => of_any q M m c W hMl (hMs.keep hb) (by omega) (by omega) hcm hnil hMz)
  have CR := Lib.hid (fun W (hb : Below w.heap.size w W) => rof_any q M m c W hMl (hMs.keep hb) (by omega) (by omega) hMz)
  obtain ⟨d, hd⟩ : ∃ d, d = ofN M := ⟨_, rfl⟩
  obtain ⟨E, hE⟩ : ∃ E : Int, E = (ofE M : Int) := ⟨_, rfl⟩
  have hKl : d.keys.length ≤ 1048576 := by rw [hd]; have := keys_few M; omega
  have hCl : d.ch.length ≤ 1048576 := by rw [hd]; have := chans_few M; omega
  unfold OfP at CO CR
  rw [← hd, ← hE] at CO CR
  clear hM hm hMl hMs hMz hL h hz hc hcm hnil hd hE
  go_enter Try.func3, Try.ntmps3
  go_wp2_with fail
  refine C0.out.mono ?_
  rintro e w1 ⟨rfl, hb1⟩
  go_wp2_with fail
  refine (CF.out _).mono ?_
  rintro e w2 ⟨rfl, rfl⟩
  go_wp2_with fail
  refine (CO.out _ hb1).mono ?_
  rintro e w3 ⟨v3, rfl, hN3, hb3⟩
  obtain ⟨qk, ck, qc, cc, rfl, hO⟩ := need_open hN3
  obtain ⟨kc, kl, ar, aw, cl⟩ := d
  simp only at hO hKl hCl ⊢
  obtain ⟨nk, hnk⟩ : ∃ nk, nk = kl.length := ⟨_, rfl⟩
  obtain ⟨nc, hnc⟩ : ∃ nc, nc = cl.length := ⟨_, rfl⟩
  rw [← hnk, ← hnc]
  rw [← hnk] at hKl
  rw [← hnc] at hCl
  have HNk := Lib.hid hnk
  have HNc := Lib.hid hnc
  have hb13 := hb1.trans (hb3.mono hb1.size)
  have HO3 := Lib.hid (hO.keep (Kit.below1 w3 (.cells #[.int .i64 kc, .slice qk nk ck, .bool ar, .bool aw, .slice qc nc cc] 27)))
  have HC3 := Lib.hid (NCells.new w3 (.int .i64 kc) (.slice qk nk ck) (.bool ar) (.bool aw) (.slice qc nc cc) w3.heap.size rfl)
  have HB3 := Lib.hid (hb13.alloc hb13.size (.cells #[.int .i64 kc, .slice qk nk ck, .bool ar, .bool aw, .slice qc nc cc] 27))
  have HL3 := Lib.hid (show w3.heap.size < (w3.alloc (.cells #[.int .i64 kc, .slice qk nk ck, .bool ar, .bool aw, .slice qc nc cc] 27)).heap.size by simp)
  clear hN3 hb3 hb1 hb13 hO C0 CF CO hnk hnc
  go_wp2_with fail
  generalize w3.alloc (.cells #[.int .i64 kc, .slice qk nk ck, .bool ar, .bool aw, .slice qc nc cc] 27) = W4 at HO3 HC3 HB3 HL3 ⊢
  refine (CR.out _ HB3.out).mono ?_
  rintro e w5 ⟨v5, rfl, hN5, hb5⟩
  obtain ⟨rk, dk, rc, dc, rfl, hO⟩ := need_open hN5
  simp only at hO ⊢
  rw [← HNk.out, ← HNc.out]
  have HO6 := Lib.hid (hO.keep (Kit.below1 w5 (.cells #[.int .i64 kc, .slice rk nk dk, .bool ar, .bool aw, .slice rc nc dc] 27)))
  have HC6 := Lib.hid (NCells.new w5 (.int .i64 kc) (.slice rk nk dk) (.bool ar) (.bool aw) (.slice rc nc dc) w5.heap.size rfl)
  have hb35 := HB3.out.trans (hb5.mono HB3.out.size)
  have HB6 := Lib.hid (hb35.alloc hb35.size (.cells #[.int .i64 kc, .slice rk nk dk, .bool ar, .bool aw, .slice rc nc dc] 27))
  have HO4 := Lib.hid ((HO3.out.keep hb5).keep (Kit.below1 w5 (.cells #[.int .i64 kc, .slice rk nk dk, .bool ar, .bool aw, .slice rc nc dc] 27)))
  have HC4 := Lib.hid ((HC3.out.keep hb5 HL3.out).keep (Kit.below1 w5 (.cells #[.int .i64 kc, .slice rk nk dk, .bool ar, .bool aw, .slice rc nc dc] 27)) (by have := hb5.size; have := HL3.out; omega))
  have HL4 := Lib.hid (show w3.heap.size < (w5.alloc (.cells #[.int .i64 kc, .slice rk nk dk, .bool ar, .bool aw, .slice rc nc dc] 27)).heap.size by have := hb5.size; have := HL3.out; simp; omega)
  have HL6 := Lib.hid (show w5.heap.size < (w5.alloc (.cells #[.int .i64 kc, .slice rk nk dk, .bool ar, .bool aw, .slice rc nc dc] 27)).heap.size by simp)
  clear hN5 hb5 hO hb35 HO3 HC3 HB3 HL3 CR
  go_upto_region 5 with fail
  generalize w5.alloc (.cells #[.int .i64 kc, .slice rk nk dk, .bool ar, .bool aw, .slice rc nc dc] 27) = W6 at HO6 HC6 HB6 HO4 HC4 HL4 HL6 ⊢
  obtain ⟨a0, a1, a2, a3, a4⟩ := HC4.out
  obtain ⟨c0, c1, c2, c3, c4⟩ := HC6.out
  have CS := Lib.hid (rsame kc kc qk rk qc rc kl kl cl cl nk nk nc nc ck dk cc dc ar ar aw aw W6 HNk.out.symm HNk.out.symm HNc.out.symm HNc.out.symm HO4.out.u HO6.out.u HO4.out.s HO6.out.s hKl hCl)
  go_wp2_with fail
  refine CS.out.mono ?_
  rintro e w7 ⟨B, rfl, hB, hb7⟩
  obtain rfl : B = true := hB (by simp)
  have HC7 := Lib.hid (HC4.out.keep hb7 HL4.out)
  have HD7 := Lib.hid (HC6.out.keep hb7 HL6.out)
  have HO7 := Lib.hid (HO4.out.keep hb7)
  have HP7 := Lib.hid (HO6.out.keep hb7)
  have hl7 : w3.heap.size < w7.heap.size := by have := hb7.size; have := HL4.out; omega
  have hm7 : w5.heap.size < w7.heap.size := by have := hb7.size; have := HL6.out; omega
  have HB7 := Lib.hid (HB6.out.trans (hb7.mono HB6.out.size))
  have HL7 := Lib.hid hl7
  have HM7 := Lib.hid hm7
  clear hB hb7 HC4 HC6 HO4 HO6 HL4 HL6 HB6 CS hl7 hm7 a0 a1 a2 a3 a4 c0 c1 c2 c3 c4
  obtain ⟨R, hR⟩ : ∃ R, R = readsL kl := ⟨_, rfl⟩
  obtain ⟨nR, hnR⟩ : ∃ nR, R.length = nR := ⟨_, rfl⟩
  obtain ⟨S, hS⟩ : ∃ S, S = writesL kl := ⟨_, rfl⟩
  obtain ⟨nS, hnS⟩ : ∃ nS, S.length = nS := ⟨_, rfl⟩
  have CA := Lib.hid (fun W (hb : Below w7.heap.size w7 W) => (hR ▸ reads_any qk kl nk ck (.int .i64 kc) (.bool ar) (.bool aw) (.slice qc nc cc) W HNk.out.symm (HO7.out.u.keep hb) hKl (by rw [HNk.out]; exact HO7.out.c1) HO7.out.c2 HO7.out.c3 : Calls Try.prog 14 #[.agg #[.int .i64 kc, .slice qk nk ck, .bool ar, .bool aw, .slice qc nc cc]] W (TextsP R W)).mono (R' := RdP R nR w7 W) (fun _ _ h => rd_of hnR h hb))
  have CB := Lib.hid (fun W (hb : Below w7.heap.size w7 W) => (hR ▸ rreads rk kl nk dk (.int .i64 kc) (.bool ar) (.bool aw) (.slice rc nc dc) W HNk.out.symm (HP7.out.u.keep hb) hKl : Calls Try.prog 15 #[.agg #[.int .i64 kc, .slice rk nk dk, .bool ar, .bool aw, .slice rc nc dc]] W (TextsP R W)).mono (R' := RdP R nR w7 W) (fun _ _ h => rd_of hnR h hb))
  have CTX := Lib.hid (fun (W : World) (p : Option Addr) (x : Nat) (r : Option Addr) (y : Nat) (h1 : Ss W p R) (h2 : Ss W r R) => (by
    have h := StrS.same_texts p r R R nR nR x y W hnR hnR h1 h2 (by have := reads_len kl; rw [← hR] at this; have := HNk.out; omega)
    rwa [decide_eq_true (rfl : R = R)] at h : Calls Try.prog 13 #[.slice p nR x, .slice r nR y] W fun e w' => e = .returned (.bool true) ∧ Below W.heap.size W w'))
  clear hR
  have bd : Below w7.heap.size w7 w7.drew := (Below.refl _ _).drew
  obtain ⟨a0, a1, a2, a3, a4⟩ := HC7.out
  obtain ⟨c0, c1, c2, c3, c4⟩ := HD7.out
  go_wp2_with fail
  go_region_law (first
    | (go_simp; (with_reducible refine (CA.out _ (by assumption)).mono ?_); rintro e wA ⟨pA, cA, rfl, sA, kA, bA⟩; obtain ⟨a0, a1, a2, a3, a4⟩ := HC7.out.keep bA HL7.out; obtain ⟨c0, c1, c2, c3, c4⟩ := HD7.out.keep bA HM7.out; try dsimp only)
    | (go_simp; (with_reducible refine (CB.out _ (by assumption)).mono ?_); rintro e wB ⟨pB, cB, rfl, sB, kB, bB⟩; obtain ⟨a0, a1, a2, a3, a4⟩ := HC7.out.keep bB HL7.out; obtain ⟨c0, c1, c2, c3, c4⟩ := HD7.out.keep bB HM7.out; try dsimp only)
    | (go_simp; (with_reducible refine (CTX.out _ pA cA pB cB (by first | exact sA | exact sA.keep kB) (by first | exact sB | exact sB.keep kA)).mono ?_); rintro e wC ⟨rfl, bC⟩; try dsimp only))
  all_goals
    have hb9 : Below w7.heap.size w7 wC := by first | exact bA.trans (bC.mono bA.size) | exact bB.trans (bC.mono bB.size)
    have HC9 := Lib.hid (HC7.out.keep hb9 HL7.out)
    have HD9 := Lib.hid (HD7.out.keep hb9 HM7.out)
    have HL9 := Lib.hid (show w3.heap.size < wC.heap.size by have := hb9.size; have := HL7.out; omega)
    have HM9 := Lib.hid (show w5.heap.size < wC.heap.size by have := hb9.size; have := HM7.out; omega)
    have HB9 := Lib.hid (HB7.out.trans (hb9.mono HB7.out.size))
    have CA9 := Lib.hid (fun W (hb : Below wC.heap.size wC W) => (hS ▸ writes_any qk kl nk ck (.int .i64 kc) (.bool ar) (.bool aw) (.slice qc nc cc) W HNk.out.symm ((HO7.out.u.keep hb9).keep hb) hKl (by rw [HNk.out]; exact HO7.out.c1) HO7.out.c2 HO7.out.c3 : Calls Try.prog 16 #[.agg #[.int .i64 kc, .slice qk nk ck, .bool ar, .bool aw, .slice qc nc cc]] W (TextsP S W)).mono (R' := RdP S nS wC W) (fun _ _ h => rd_of hnS h hb))
    have CB9 := Lib.hid (fun W (hb : Below wC.heap.size wC W) => (hS ▸ rwrites rk kl nk dk (.int .i64 kc) (.bool ar) (.bool aw) (.slice rc nc dc) W HNk.out.symm ((HP7.out.u.keep hb9).keep hb) hKl : Calls Try.prog 17 #[.agg #[.int .i64 kc, .slice rk nk dk, .bool ar, .bool aw, .slice rc nc dc]] W (TextsP S W)).mono (R' := RdP S nS wC W) (fun _ _ h => rd_of hnS h hb))
    have CT9 := Lib.hid (fun (W : World) (p : Option Addr) (x : Nat) (r : Option Addr) (y : Nat) (h1 : Ss W p S) (h2 : Ss W r S) => (by
      have h := StrS.same_texts p r S S nS nS x y W hnS hnS h1 h2 (by have := writes_len kl; rw [← hS] at this; have := HNk.out; omega)
      rwa [decide_eq_true (rfl : S = S)] at h : Calls Try.prog 13 #[.slice p nS x, .slice r nS y] W fun e w' => e = .returned (.bool true) ∧ Below W.heap.size W w'))
    clear CA CB CTX HC7 HD7 HL7 HM7 HB7 HO7 HP7 hb9 bA bB bC kA kB sA sB bd a0 a1 a2 a3 a4 c0 c1 c2 c3 c4
    have bd : Below wC.heap.size wC wC.drew := (Below.refl _ _).drew
    obtain ⟨a0, a1, a2, a3, a4⟩ := HC9.out
    obtain ⟨c0, c1, c2, c3, c4⟩ := HD9.out
    go_wp2_with fail
    go_region_law (first
      | (go_simp; (with_reducible refine (CA9.out _ (by assumption)).mono ?_); rintro e wA ⟨pA, cA, rfl, sA, kA, bA⟩; obtain ⟨a0, a1, a2, a3, a4⟩ := HC9.out.keep bA HL9.out; obtain ⟨c0, c1, c2, c3, c4⟩ := HD9.out.keep bA HM9.out; try dsimp only)
      | (go_simp; (with_reducible refine (CB9.out _ (by assumption)).mono ?_); rintro e wB ⟨pB, cB, rfl, sB, kB, bB⟩; obtain ⟨a0, a1, a2, a3, a4⟩ := HC9.out.keep bB HL9.out; obtain ⟨c0, c1, c2, c3, c4⟩ := HD9.out.keep bB HM9.out; try dsimp only)
      | (go_simp; (with_reducible refine (CT9.out _ pA cA pB cB (by first | exact sA | exact sA.keep kB) (by first | exact sB | exact sB.keep kA)).mono ?_); rintro e wD ⟨rfl, bD⟩; try dsimp only))
    all_goals
      have hbD : Below wC.heap.size wC wD := by first | exact bA.trans (bD.mono bA.size) | exact bB.trans (bD.mono bB.size)
      have HBD := Lib.hid (HB9.out.trans (hbD.mono HB9.out.size))
      clear CA9 CB9 CT9 HC9 HD9 HL9 HM9 HB9 hbD bA bB bD kA kB sA sB bd a0 a1 a2 a3 a4 c0 c1 c2 c3 c4
      go_wp2_with fail
      go_ret
      exact ⟨rfl, HBD.out⟩

end Go.Proofs.Ytonoelpmmjnpeaa.usesAll
