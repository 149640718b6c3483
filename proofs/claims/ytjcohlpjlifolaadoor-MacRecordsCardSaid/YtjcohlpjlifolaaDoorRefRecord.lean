/-
  What the reference's read, Right and Record come to (one text: a claim holds at most sixty).
-/
import Derived.Test.YtjcohlpjlifolaaDoorRefParts
import Derived.Test.YtjcohlpjlifolaaDoorRefDerive
import Derived.Test.YtjcohlpjlifolaaDoorRefHexWalk
import Derived.Test.YtjcohlpjlifolaaDoorRef01b
namespace Go.Proofs.YtjcohlpjlifolaaDoor.RefM
open Go.RowKit Kit ShaMath ShaT MacM MacT HexMath HexW NumL NumMath
open Go.Sort (grow)
set_option linter.unusedVariables false
set_option maxRecDepth 100000

/-- What read answers, as far as it matters. -/
def ReadB (ok : Bool) (w : World) (e : Ending) (w' : World) : Prop :=
  ∃ n v1 v2, e = .returned (.tuple #[.int .i64 n, v1, v2, .bool ok]) ∧ Below w.heap.size w w'
theorem readB_no {R : Option (Int × List UInt8 × List UInt8)} {n : Int} {v1 v2 : Value} {w w' : World} (h : R = none) (hb : Below w.heap.size w w') : ReadB R.isSome w (.returned (.tuple #[.int .i64 n, v1, v2, .bool false])) w' := by
  subst h
  exact ⟨n, v1, v2, rfl, hb⟩
theorem readB_yes {R : Option (Int × List UInt8 × List UInt8)} {x : Int × List UInt8 × List UInt8} {n : Int} {v1 v2 : Value} {w w' : World} (h : R = some x) (hb : Below w.heap.size w w') : ReadB R.isSome w (.returned (.tuple #[.int .i64 n, v1, v2, .bool true])) w' := by
  subst h
  exact ⟨n, v1, v2, rfl, hb⟩
theorem runhex_b (l : List UInt8) (w : World) (hz : l.length ≤ 1048576) : Calls Tryd.prog 52 #[.string ⟨l.toArray⟩] w (UnB l w) := by
  refine (runhex_any ⟨l.toArray⟩ w (by rw [size_bytes]; omega)).mono ?_
  rintro e w' (⟨hn, he, hb⟩ | ⟨out, v, hu, he, ho, hb⟩)
  · have hn' : unhexL l = none := hn
    exact ⟨none, 0, 0, by rw [hn']; exact he, fun out h => (by rw [hn'] at h; cases h), hb⟩
  · have hu' : unhexL l = some out := hu
    obtain ⟨p, c, rfl, hbs, h1, h2, h3⟩ := own_full ho
    refine ⟨p, out.length, c, by rw [hu']; exact he, fun out' h => ?_, hb⟩
    rw [hu'] at h
    injection h with h
    subst h
    exact ⟨rfl, hbs, h1, h2, h3⟩
theorem rparse_b (l : List UInt8) (w : World) (hz : l.length ≤ 1048576) : Calls Tryd.prog 51 #[.string ⟨l.toArray⟩] w fun e w' => e = .returned (.tuple #[.int .i64 (pV l), .bool (pB l)]) ∧ Below w.heap.size w w' :=
  Ref01.parse_ref ⟨l.toArray⟩ w (by rw [size_bytes]; omega)

set_option maxHeartbeats 1000000 in
theorem read_other (s : ByteArray) (h : (partsS s.data.toList).1.length ≠ 2) (w : World) (hz : s.size ≤ 1048576) :
    Calls Tryd.prog 35 #[.string s] w (ReadB false w) := by
  have C := Lib.hid (parts_any s w hz)
  obtain ⟨st, hst⟩ : ∃ st, st = partsS s.data.toList := ⟨_, rfl⟩
  rw [← hst] at C h
  clear hst
  go_enter Tryd.func35, Tryd.ntmps35
  go_wp2_with fail
  refine C.out.mono ?_
  rintro e w1 ⟨g, c, rfl, ho, hb⟩
  obtain ⟨N, hN⟩ : ∃ N, N = st.1.length + 1 := ⟨_, rfl⟩
  have hN3 : N ≠ 3 := by omega
  rw [← hN]
  clear ho hN h
  have hd : ((N : Int) != 3) = true := by simp; omega
  go_wp2_with fail
  exact bodyPost_ret (v := .tuple #[.int .i64 0, .slice none 0 0, .slice none 0 0, .bool false]) (by simp [results, Tryd.results35, go_sem]) rfl ⟨_, _, _, rfl, hb⟩

set_option maxHeartbeats 2000000 in
theorem read_three (s : ByteArray) (a b c : List UInt8) (h1 : (partsS s.data.toList).1 = [a, b]) (h2 : (partsS s.data.toList).2 = c) (w : World) (hz : s.size ≤ 1048576) :
    Calls Tryd.prog 35 #[.string s] w (ReadB (recOf3 a b c).isSome w) := by
  have C := Lib.hid (parts_any s w hz)
  have hl := (inv_parts s.data.toList).j
  rw [h1, h2] at hl
  have hs : s.data.toList.length = s.size := by simp
  have hl2 := congrArg List.length hl
  simp [joinP] at hl2
  have hla : a.length ≤ 1048576 := by omega
  have hlb : b.length ≤ 1048576 := by omega
  have hlc : c.length ≤ 1048576 := by omega
  obtain ⟨st, hst⟩ : ∃ st, st = partsS s.data.toList := ⟨_, rfl⟩
  rw [← hst] at C h1 h2
  have S0 := Lib.hid (strs_at st 0 a (by rw [h1]; rfl))
  have S1 := Lib.hid (strs_at st 1 b (by rw [h1]; rfl))
  have S2 := Lib.hid (show (strs st)[2]? = some (.string ⟨c.toArray⟩) by have := strs_last st; rw [h1, h2] at this; exact this)
  have HL := Lib.hid (show st.1.length + 1 = 3 by rw [h1]; rfl)
  clear hst h1 h2 hl hl2 hs
  go_enter Tryd.func35, Tryd.ntmps35
  go_wp2_with fail
  refine C.out.mono ?_
  rintro e w1 ⟨g, cp, rfl, ho, hb1⟩
  rw [HL.out] at ho ⊢
  obtain ⟨g', cap', e', hg, hgl⟩ := ho.form (by omega)
  injection e' with e1 _ _
  injection e1 with e1
  injection e1 with e1
  subst e1
  have c0 := ho.cellAt 0 (by omega)
  have c1 := ho.cellAt 1 (by omega)
  have c2 := ho.cellAt 2 (by omega)
  rw [S0.out] at c0
  rw [S1.out] at c1
  rw [S2.out] at c2
  have HB1 := Lib.hid hb1
  have K1 := Lib.hid c1
  have K2 := Lib.hid c2
  clear ho hb1 c1 c2 S0 S1 S2 HL
  go_wp2_with fail
  refine (rparse_b a _ hla).mono ?_
  rintro e w2 ⟨rfl, hb2⟩
  have HB2 := Lib.hid (HB1.out.trans (hb2.mono HB1.out.size))
  have c1 := (hb2.cell (p := ⟨g, 1, none⟩) hgl).trans K1.out
  have J2 := Lib.hid ((hb2.cell (p := ⟨g, 2, none⟩) hgl).trans K2.out)
  have hgl2 : g < w2.heap.size := Nat.lt_of_lt_of_le hgl hb2.size
  clear hb2 HB1 K1 K2 c0
  go_wp2_with fail
  refine (runhex_b b _ hlb).mono ?_
  rintro e w3 ⟨p1, n1, k1, rfl, hf1, hb3⟩
  have HB3 := Lib.hid (HB2.out.trans (hb3.mono HB2.out.size))
  have c2 := (hb3.cell (p := ⟨g, 2, none⟩) hgl2).trans J2.out
  have F1 := Lib.hid hf1
  clear hb3 HB2 J2 c1 hf1
  go_wp2_with fail
  refine (runhex_b c _ hlc).mono ?_
  rintro e w4 ⟨p2, n2, k2, rfl, hf2, hb4⟩
  have hb := HB3.out.trans (hb4.mono HB3.out.size)
  have F2 := Lib.hid hf2
  clear hb4 HB3 c2 hf2
  rcases hA : parse a with _ | r
  · have HN := Lib.hid (recOf3_a (b := b) (c := c) hA)
    have hp : pB a = false := by unfold pB; rw [hA]; rfl
    clear hA
    go_wp2_with fail
    exact bodyPost_ret (v := .tuple #[.int .i64 (pV a), .slice p1 n1 k1, .slice p2 n2 k2, .bool false]) (by simp [results, Tryd.results35, go_sem]) rfl (readB_no HN.out hb)
  have hp : pB a = true := by unfold pB; rw [hA]; rfl
  have HV := Lib.hid (show pV a = r by unfold pV; rw [hA]; rfl)
  have HA := Lib.hid hA
  clear hA
  rcases hB : unhexL b with _ | salt
  · have HN := Lib.hid (recOf3_b (a := a) (c := c) hB)
    have hp1 : (unhexL b).isSome = false := by rw [hB]; rfl
    clear hB
    go_wp2_with fail
    exact bodyPost_ret (v := .tuple #[.int .i64 (pV a), .slice p1 n1 k1, .slice p2 n2 k2, .bool false]) (by simp [results, Tryd.results35, go_sem]) rfl (readB_no HN.out hb)
  have hp1 : (unhexL b).isSome = true := by rw [hB]; rfl
  have HN1 := Lib.hid (F1.out salt hB).1
  have HBb := Lib.hid hB
  clear hB
  rcases hD : unhexL c with _ | d
  · have HN := Lib.hid (recOf3_c (a := a) (b := b) hD)
    have hp2 : (unhexL c).isSome = false := by rw [hD]; rfl
    clear hD
    go_wp2_with fail
    exact bodyPost_ret (v := .tuple #[.int .i64 (pV a), .slice p1 n1 k1, .slice p2 n2 k2, .bool false]) (by simp [results, Tryd.results35, go_sem]) rfl (readB_no HN.out hb)
  have hp2 : (unhexL c).isSome = true := by rw [hD]; rfl
  have HN2 := Lib.hid (F2.out d hD).1
  have HDd := Lib.hid hD
  clear hD F1 F2
  by_cases hr0 : 1 ≤ pV a
  · have e0 : decide (1 ≤ pV a) = true := decide_eq_true hr0
    by_cases hr1 : pV a ≤ 64
    · have e1 : decide (pV a ≤ 64) = true := decide_eq_true hr1
      by_cases h32 : n1 ≤ 32
      · have d1 : decide ((n1 : Int) ≤ 32) = true := decide_eq_true (by omega)
        have d1b : decide (n1 ≤ 32) = true := decide_eq_true h32
        by_cases hd32 : n2 = 32
        · have d2 : ((n2 : Int) == 32) = true := by rw [hd32]; rfl
          have HN := Lib.hid (recOf3_some HA.out HBb.out HDd.out ⟨by rw [← HV.out]; exact hr0, by rw [← HV.out]; exact hr1, by rw [HN1.out]; exact h32, by rw [HN2.out]; exact hd32⟩)
          clear hd32
          go_wp2_with fail
          exact bodyPost_ret (v := .tuple #[.int .i64 (pV a), .slice p1 n1 k1, .slice p2 n2 k2, .bool true]) (by simp [results, Tryd.results35, go_sem]) rfl (readB_yes HN.out hb)
        · have d2 : ((n2 : Int) == 32) = false := by simp; omega
          have HN := Lib.hid (recOf3_out HA.out HBb.out HDd.out (by rw [HN2.out]; omega))
          go_wp2_with fail
          exact bodyPost_ret (v := .tuple #[.int .i64 (pV a), .slice p1 n1 k1, .slice p2 n2 k2, .bool false]) (by simp [results, Tryd.results35, go_sem]) rfl (readB_no HN.out hb)
      · have d1 : decide ((n1 : Int) ≤ 32) = false := decide_eq_false (by omega)
        have d1b : decide (n1 ≤ 32) = false := decide_eq_false h32
        have HN := Lib.hid (recOf3_out HA.out HBb.out HDd.out (by rw [HN1.out]; omega))
        go_wp2_with fail
        exact bodyPost_ret (v := .tuple #[.int .i64 (pV a), .slice p1 n1 k1, .slice p2 n2 k2, .bool false]) (by simp [results, Tryd.results35, go_sem]) rfl (readB_no HN.out hb)
    · have e1 : decide (pV a ≤ 64) = false := decide_eq_false hr1
      have HN := Lib.hid (recOf3_out HA.out HBb.out HDd.out (by have := HV.out; omega))
      go_wp2_with fail
      exact bodyPost_ret (v := .tuple #[.int .i64 (pV a), .slice p1 n1 k1, .slice p2 n2 k2, .bool false]) (by simp [results, Tryd.results35, go_sem]) rfl (readB_no HN.out hb)
  · have e0 : decide (1 ≤ pV a) = false := decide_eq_false hr0
    have HN := Lib.hid (recOf3_out HA.out HBb.out HDd.out (by have := HV.out; omega))
    go_wp2_with fail
    exact bodyPost_ret (v := .tuple #[.int .i64 (pV a), .slice p1 n1 k1, .slice p2 n2 k2, .bool false]) (by simp [results, Tryd.results35, go_sem]) rfl (readB_no HN.out hb)

theorem read_any (s : ByteArray) (w : World) (hz : s.size ≤ 1048576) : Calls Tryd.prog 35 #[.string s] w (ReadB (rightB s.data.toList) w) := by
  by_cases h : (partsS s.data.toList).1.length = 2
  · match hp : (partsS s.data.toList).1, h with
    | [a, b], _ =>
      have e : rightB s.data.toList = (recOf3 a b (partsS s.data.toList).2).isSome := by unfold rightB; rw [parts_three _ a b hp]
      rw [e]
      exact read_three s a b _ hp rfl w hz
  · have e : rightB s.data.toList = false := by unfold rightB; rw [parts_other _ h]; rfl
    rw [e]
    exact read_other s h w hz

set_option maxHeartbeats 1000000 in
theorem rright_any (s : ByteArray) (w : World) (hz : s.size ≤ 1048576) :
    Calls Tryd.prog 21 #[.string s] w fun e w' => e = .returned (.bool (rightB s.data.toList)) ∧ Below w.heap.size w w' := by
  have C := Lib.hid (read_any s w hz)
  obtain ⟨R, hR⟩ : ∃ R, R = rightB s.data.toList := ⟨_, rfl⟩
  rw [← hR] at C ⊢
  clear hR
  go_enter Tryd.func21, Tryd.ntmps21
  go_wp2_with fail
  refine C.out.mono ?_
  rintro e w1 ⟨n, v1, v2, rfl, hb⟩
  go_wp2_with fail
  go_ret
  exact ⟨rfl, hb⟩


theorem rhex_n (p : Option Addr) (l : List UInt8) (n cap : Nat) (w : World) (hn : l.length = n) (hb : Bs w p l) (hl : l.length ≤ 70368744176640) :
    Calls Tryd.prog 33 #[.slice p n cap] w fun e w' => e = .returned (.string ⟨(hexL l).toArray⟩) ∧ Below w.heap.size w w' := by
  subst hn
  exact rhex_any p l cap w hb hl
theorem rderive_text (s : ByteArray) (q : Option Addr) (salt : List UInt8) (m cap2 : Nat) (r : Nat) (w : World) (h0 : 1 ≤ r) (h1 : r ≤ 64) (hz : s.size ≤ 70368744170000)
    (hm : salt.length = m) (hbs : Bs w q salt) (hl : salt.length ≤ 70368744160000) (hnil : q = none → cap2 = 0) :
    Calls Tryd.prog 15 #[.slice (some ⟨w.heap.size, 0, none⟩) s.size (grownCap w s.size 0 5), .slice q m cap2, .int .i64 (r : Int)] (Lib.bytesWorld w 5 s) fun e w' => e = .returned (.agg (row .u8 32 (derAt s.data.toList salt r))) ∧ Below w.heap.size w w' := by
  have hb := bytesWorld_below w 5 s
  have hs : s.data.toList.length = s.size := by simp
  refine (rderive_in _ s.data.toList s.size _ q salt m cap2 r _ h0 h1 hs (bytes_bs w s) (by omega) (fun h => by cases h) hm (hbs.keep hb) hl hnil).mono ?_
  rintro e w' ⟨he, hb2⟩
  exact ⟨he, hb.trans (hb2.mono hb.size)⟩

set_option maxHeartbeats 1000000 in
theorem rrecord_yes (s : ByteArray) (p : Option Addr) (l : List UInt8) (n cap r : Nat) (w : World) (h0 : 1 ≤ r) (h1 : r ≤ 64) (hz : s.size ≤ 70368744170000) (hn : l.length = n) (hb : Bs w p l) (hl : n ≤ 32) (hnil : p = none → cap = 0) :
    Calls Tryd.prog 19 #[.string s, .slice p n cap, .int .i64 (r : Int)] w fun e w' => e = .returned (.tuple #[.string ⟨(recL r l (derL s.data.toList l r)).toArray⟩, .bool true]) ∧ Below w.heap.size w w' := by
  obtain ⟨hz3, hn3⟩ := zero_of_info info_32
  have HN := Lib.hid hn3
  clear hn3
  have hconv := fun W => Lib.run_convert_string_bytes (P := Tryd.prog) W 9 22 5 s Tryd.underlying9 Tryd.underlying22 Tryd.underlying5
  have CD := Lib.hid (rderive_text s p l n cap r w h0 h1 hz hn hb (by omega) hnil)
  have HLn := Lib.hid hn
  have HB := Lib.hid hb
  have d1 : decide ((r : Int) < 1) = false := decide_eq_false (by omega)
  have d2 : decide (64 < (r : Int)) = false := decide_eq_false (by omega)
  have d3 : decide (32 < (n : Int)) = false := decide_eq_false (by omega)
  obtain ⟨D, hD⟩ : ∃ D, D = derAt s.data.toList l r := ⟨_, rfl⟩
  have HDL := Lib.hid (show ∀ j, D j < 256 by rw [hD]; exact derAt_lt _ _ _)
  have HDe := Lib.hid (show derL s.data.toList l r = bytesOf 32 D by rw [hD]; rfl)
  rw [HDe.out]
  rw [← hD] at CD
  obtain ⟨T, hT⟩ : ∃ T : ByteArray, T = ⟨(Lib.itoa (r : Int)).toArray⟩ := ⟨_, rfl⟩
  obtain ⟨H1, hH1⟩ : ∃ H1 : ByteArray, H1 = ⟨(hexL l).toArray⟩ := ⟨_, rfl⟩
  obtain ⟨H2, hH2⟩ : ∃ H2 : ByteArray, H2 = ⟨(hexL (bytesOf 32 D)).toArray⟩ := ⟨_, rfl⟩
  have ht2 : T.size ≤ 2 := by rw [hT, size_bytes]; exact itoa_small r (by omega)
  have hs1 : H1.size ≤ 64 := by rw [hH1, size_bytes, hexL_length]; omega
  have hs2 : H2.size ≤ 64 := by rw [hH2, size_bytes, hexL_length, bytesOf_length]; omega
  have HE := Lib.hid (rec_bytes hT hH1 hH2)
  rw [← HE.out]
  have CT := fun W => Ref01.text_any 64 (r : Int) W (by omega) (by omega) (by omega)
  rw [← hT] at CT
  have CH1 := fun W (h : Bs W p l) => rhex_n p l n cap W hn h (by omega)
  rw [← hH1] at CH1
  have CH2 := fun W q (h : Bs W q (bytesOf 32 D)) => rhex_n q (bytesOf 32 D) 32 32 W (bytesOf_length _ _) h (by rw [bytesOf_length]; decide)
  rw [← hH2] at CH2
  have CT := Lib.hid CT
  have CH1 := Lib.hid CH1
  have CH2 := Lib.hid CH2
  clear hT hH1 hH2 hD hn hb
  go_enter Tryd.func19, Tryd.ntmps19
  go_wp2_with fail
  refine (CD.out).mono ?_
  rintro e w1 ⟨rfl, hb1⟩
  clear hconv
  go_upto_region 4 with (with_reducible refine wpList_store_arr rfl 25 (.tmp 8) (.tmp 24) rfl w1.heap.size .u8 32 D rfl rfl 25 _ Arr.new HN ?_)
  go_simp
  have hA : Arr ((w1.alloc (.cells (row .u8 32 fun _ => 0) 25)).setRow w1.heap.size (row .u8 32 D)) w1.heap.size .u8 32 25 D := Arr.new.setRow _
  have hb2 : Below w.heap.size w ((w1.alloc (.cells (row .u8 32 fun _ => 0) 25)).setRow w1.heap.size (row .u8 32 D)) := below_setRow (hb1.alloc hb1.size _) hb1.size _
  generalize World.setRow _ _ _ = w2 at hA hb2 ⊢
  generalize w1.heap.size = g8 at hA ⊢
  have HA := Lib.hid hA
  have hb := hb2
  have CQ1 := Lib.hid (fun d os => Calls.regrown_of (CT.out (grow (redrawn w2 d) os)))
  have CQ2 := Lib.hid (fun d os => Calls.regrown_of (CH1.out (grow (redrawn w2 d) os) (HB.out.keep (hb2.trans ((below_regrown w2 d os).mono hb2.size)))))
  have CQ3 := Lib.hid (fun d os => Calls.regrown_of (CH2.out (grow (redrawn w2 d) os) _ ((arr_bs HA.out HDL.out).keep (below_regrown w2 d os))))
  clear hA hb1 hb2
  refine wp_region_quiet_below (by kernel_rfl) (by kernel_rfl) ?_
  repeat (any_goals (go_big_quiet_step ((first | (go_at_call 32; with_reducible exact CQ1.out _ _) | (go_at_call 33; with_reducible exact CQ2.out _ _) | (go_at_call 33; with_reducible exact CQ3.out _ _)))))
  refine wpQuiet_nil ?_
  intro _ hw'
  obtain ⟨⟨dq, osq⟩, hw''⟩ := hw'
  subst hw''
  replace hb := hb.trans ((below_regrown _ dq osq).mono hb.size)
  clear CQ1 CQ2 CQ3
  go_wp2_with fail
  go_ret2
  exact ⟨rfl, hb⟩

set_option maxHeartbeats 1000000 in
theorem rrecord_no (s : ByteArray) (p : Option Addr) (n cap : Nat) (r : Int) (w : World) (h : ¬ ((1 ≤ r ∧ r ≤ 64) ∧ n ≤ 32)) :
    Calls Tryd.prog 19 #[.string s, .slice p n cap, .int .i64 r] w fun e w' => e = .returned (.tuple #[.string ⟨#[]⟩, .bool false]) ∧ Below w.heap.size w w' := by
  by_cases h1 : r < 1
  · have d1 : decide (r < 1) = true := decide_eq_true h1
    clear h
    go_enter Tryd.func19, Tryd.ntmps19
    go_wp2_with fail
    go_ret2
    exact ⟨rfl, Below.refl _ _⟩
  · have d1 : decide (r < 1) = false := decide_eq_false h1
    by_cases h2 : 64 < r
    · have d2 : decide (64 < r) = true := decide_eq_true h2
      clear h
      go_enter Tryd.func19, Tryd.ntmps19
      go_wp2_with fail
      go_ret2
      exact ⟨rfl, Below.refl _ _⟩
    · have d2 : decide (64 < r) = false := decide_eq_false h2
      have d3 : decide (32 < (n : Int)) = true := decide_eq_true (by omega)
      clear h
      go_enter Tryd.func19, Tryd.ntmps19
      go_wp2_with fail
      go_ret2
      exact ⟨rfl, Below.refl _ _⟩

end Go.Proofs.YtjcohlpjlifolaaDoor.RefM
