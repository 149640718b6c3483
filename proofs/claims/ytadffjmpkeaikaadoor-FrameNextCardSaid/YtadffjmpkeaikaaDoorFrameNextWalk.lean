/-
  FrameNext: the request that any bytes begin with, and how words are put, is as the document says.
-/
import Derived.Test.YtadffjmpkeaikaaDoorFrameFit
import Derived.Test.YtadffjmpkeaikaaDoorRefWords
import Derived.Deep.RegionHeld
namespace Go.Proofs.YtadffjmpkeaikaaDoor.frameNext
open Go.RowKit Kit BytesIn ReplyMath ReplyT NumMath NumL FrameMath FrameT FrameM FrameL
set_option linter.unusedVariables false
set_option maxRecDepth 100000
-- ASKS: NumL.Gd
-- NIL

theorem ansS_slice {base : Nat} {w : World} {v : Value} {L : List (List UInt8)} (h : AnsS base w v L) (n : Nat) (hn : L.length = n) : ∃ q c, v = .slice q n c ∧ Ss w q L ∧ n ≤ c ∧ c ≤ 9223372036854775807 ∧ (q = none → c = 0) := by
  subst hn
  obtain ⟨q, c, hv, hS, -, h1⟩ := h
  exact ⟨q, c, hv, hS, h1⟩
theorem ans_slice {base : Nat} {w : World} {v : Value} {l : List UInt8} (h : Ans base w v l) (n : Nat) (hn : l.length = n) : ∃ p c, v = .slice p n c ∧ Bs w p l := by
  subst hn
  obtain ⟨p, c, hv, hB, -⟩ := h
  exact ⟨p, c, hv, hB⟩
/-- A row of bytes that was answered, told as a text in whatever world comes behind. -/
def ToldP (N : Nat) (T : ByteArray) (w0 W : World) (e : Ending) (w' : World) : Prop :=
  ∃ pY cY, e = .returned (.slice pY N cY) ∧ (∀ V, Below w'.heap.size w' V → (convert 22 9 (.slice pY N cY)).run Tryd.prog V = .ok (.string T) V) ∧ Below w0.heap.size w0 w' ∧ Below W.heap.size W w' ∧ Below w'.heap.size w' w'
theorem told_of {l : List UInt8} {w0 W w' : World} {e : Ending} {N : Nat} {T : ByteArray} (h : Gives l W e w') (hN : l.length = N) (hT : T = ⟨l.toArray⟩) (hw : Below w0.heap.size w0 W) : ToldP N T w0 W e w' := by
  obtain ⟨v, rfl, ha, hb⟩ := h
  obtain ⟨p, c, rfl, hB⟩ := ans_slice ha N hN
  refine ⟨p, c, rfl, fun V hV => ?_, hw.trans (hb.mono hw.size), hb, Below.refl _ _⟩
  rw [hT]
  exact bs_string (hB.keep hV) N c hN.symm

set_option maxHeartbeats 4000000 in
theorem walk (p : Option Addr) (l : List UInt8) (n c : Nat) (q : Option Addr) (L : List (List UInt8)) (m d : Nat) (w : World) (hn : l.length = n) (hb : Bs w p l) (hc : n ≤ c) (hcm : c ≤ 9223372036854775807) (hnil : p = none → c = 0)
    (hL : L.length = m) (hS : Ss w q L) (hz : ∀ s ∈ L, s.length ≤ 140737488351232) (hm : m ≤ 9223372036854775807) (hg : Gd w) :
    Calls Tryd.prog 3 #[.slice p n c, .slice q m d] w fun e w' => e = .returned (.bool true) ∧ Below w.heap.size w w' := by
  have HG := Lib.hid hg
  have C0 := Lib.hid (shown_any w hg)
  have C1 := Lib.hid (fun W (hbw : Below w.heap.size w W) => short_any p l n c W hn (hb.keep hbw) hc hcm hnil)
  have C2 := Lib.hid (fun W (hbw : Below w.heap.size w W) => fit_any q L m d W hL (hS.keep hbw) hz hm)
  have HFl := Lib.hid (fitL_len L)
  have HFs := Lib.hid (fitL_small L)
  obtain ⟨X, hX⟩ : ∃ X, X = l.take 1500 := ⟨_, rfl⟩
  rw [← hX] at C1
  obtain ⟨F, hF⟩ : ∃ F, F = fitL L := ⟨_, rfl⟩
  rw [← hF] at C2 HFl HFs
  clear hb hn hS hL hz hX hF hnil hg
  go_enter Tryd.func3, Tryd.ntmps3
  go_wp2_with fail
  with_reducible refine C0.out.mono ?_
  rintro e w1 ⟨rfl, hb1⟩
  go_wp2_with fail
  with_reducible refine (C1.out w1 hb1).mono ?_
  rintro e w2 ⟨hw2, q1, m1, rfl, hm1, hB1, h1500, hm1c, hnil1⟩
  subst hw2
  go_wp2_with fail
  with_reducible refine (C2.out w2 hb1).mono ?_
  rintro e w3 ⟨v, rfl, ha, hb3⟩
  obtain ⟨k, hk⟩ : ∃ k, k = F.length := ⟨_, rfl⟩
  obtain ⟨q2, c2, rfl, hS2, hk2, hc2, hnil2⟩ := ansS_slice ha k hk.symm
  have HB3 := Lib.hid (hb1.trans (hb3.mono hb1.size))
  have HX3 := Lib.hid (hB1.keep hb3)
  have HS3 := Lib.hid hS2
  have HM1 := Lib.hid hm1
  have HK := Lib.hid hk
  have HKl := Lib.hid (show k ≤ 1024 by have := HFl.out; omega)
  have CN := Lib.hid (next_any q1 X m1 c w3 hm1 HX3.out hm1c hcm (by omega) hnil1 (HG.out.keep HB3.out))
  clear ha hb1 hb3 hB1 hS2 hm1 hk
  go_wp2_with fail
  with_reducible refine CN.out.mono ?_
  rintro e w4 ⟨v4, rfl, ha4, hb4⟩
  have CR := Lib.hid (RefF.rnext q1 X m1 c w4 HM1.out (HX3.out.keep hb4) hm1c hcm (by omega))
  have h32 := wordsR_len X
  obtain ⟨W4, hW4⟩ : ∃ W4, W4 = wordsR (nextL X) := ⟨_, rfl⟩
  obtain ⟨T4, hT4⟩ : ∃ T4, T4 = takenR (nextL X) := ⟨_, rfl⟩
  obtain ⟨E4, hE4⟩ : ∃ E4, E4 = errR (nextL X) := ⟨_, rfl⟩
  have CR2 : Hid (Calls Tryd.prog 13 #[.slice q1 m1 c] w4 fun e w' => ∃ v, e = .returned (.tuple #[v, .int .i64 (T4 : Int), .int .i64 E4]) ∧ AnsS w4.heap.size w' v W4 ∧ Below w4.heap.size w4 w') := Lib.hid (by rw [hW4, hT4, hE4]; exact CR.out)
  rw [← hW4] at ha4 h32
  rw [← hT4, ← hE4]
  obtain ⟨k4, hk4⟩ : ∃ k4, k4 = W4.length := ⟨_, rfl⟩
  have HK4 := Lib.hid hk4
  obtain ⟨q4, c4, rfl, hS4, -⟩ := ansS_slice ha4 k4 hk4.symm
  have HS4 := Lib.hid hS4
  have HB4 := Lib.hid (HB3.out.trans (hb4.mono HB3.out.size))
  have HSw := Lib.hid (HS3.out.keep hb4)
  clear CR ha4 hW4 hT4 hE4 hS4 hb4 hk4
  go_wp2_with fail
  with_reducible refine CR2.out.mono ?_
  rintro e w5 ⟨v5, rfl, ha5, hb5⟩
  obtain ⟨q5, c5, rfl, hS5, -⟩ := ansS_slice ha5 k4 HK4.out.symm
  have CT := Lib.hid (same_texts q4 q5 W4 W4 k4 k4 c4 c5 w5 HK4.out.symm HK4.out.symm (HS4.out.keep hb5) hS5 (by have := HK4.out; omega))
  rw [show decide (W4 = W4) = true from decide_eq_true rfl] at CT
  have HB5 := Lib.hid (HB4.out.trans (hb5.mono HB4.out.size))
  have HSw5 := Lib.hid (HSw.out.keep hb5)
  clear ha5 hb5 hS5 h32
  go_wp2_with fail
  with_reducible refine CT.out.mono ?_
  rintro e w6 ⟨rfl, hb6⟩
  have HB6 := Lib.hid (HB5.out.trans (hb6.mono HB5.out.size))
  have HSw6 := Lib.hid (HSw5.out.keep hb6)
  obtain ⟨N, hN⟩ : ∃ N, N = (texts F).length := ⟨_, rfl⟩
  obtain ⟨T, hT⟩ : ∃ T : ByteArray, T = ⟨(texts F).toArray⟩ := ⟨_, rfl⟩
  have CA := Lib.hid (fun W (h : Below w6.heap.size w6 W) => (put_any q2 F k c2 W HK.out.symm (HSw6.out.keep h) hk2 hc2 hnil2 HKl.out (fun s hs => by have := HFs.out s hs; omega) (HG.out.keep (HB6.out.trans (h.mono HB6.out.size)))).mono (R' := ToldP N T w6 W) fun e w' hh => told_of hh hN.symm hT h)
  have CB := Lib.hid (fun W (h : Below w6.heap.size w6 W) => (rput q2 F k c2 W HK.out.symm (HSw6.out.keep h) HKl.out (fun s hs => by have := HFs.out s hs; omega)).mono (R' := ToldP N T w6 W) fun e w' hh => told_of hh hN.symm hT h)
  have te : (T.toList == T.toList) = true := beq_self_eq_true _
  have bd : Below w6.heap.size w6 w6.drew := (Below.refl _ _).drew
  clear hb6 hN hT hk2 hc2 hnil2
  go_wp2_with fail
  go_region_held (fun W => Below w6.heap.size w6 W) (first | assumption | exact (Below.refl _ _).drew | exact Below.alloc (by assumption) (Below.size (by assumption)) _)
    (first
      | (go_at_call 15; (with_reducible refine (CA.out _ (by assumption)).mono ?_); rintro e w7 ⟨pA, cA, rfl, cvA, bA, bA2, bA3⟩)
      | (go_at_call 16; (with_reducible refine (CB.out _ (by assumption)).mono ?_); rintro e w8 ⟨pB, cB, rfl, cvB, bB, bB2, bB3⟩))
  all_goals
    clear cvA cvB
    go_wp2_with fail
    go_ret
    exact ⟨rfl, HB6.out.trans (Below.mono (by first | exact bB | exact bA) HB6.out.size)⟩

end Go.Proofs.YtadffjmpkeaikaaDoor.frameNext
