/-
  FrameReads: the requests of any bytes are read one by one, however they are cut, up to the first that is none, and from then on none.
-/
import Derived.Test.YtadffjmpkeaikaaDoorFrameRead2
import Derived.Test.YtadffjmpkeaikaaDoorFrameBack0
import Derived.Test.YtadffjmpkeaikaaDoorRefAll
import Derived.Deep.RegionLaw
namespace Go.Proofs.YtadffjmpkeaikaaDoor.frameReads
open Go.RowKit Kit BytesIn ReplyMath ReplyT NumMath NumL FrameMath FrameT FrameM FrameL RefF
set_option linter.unusedVariables false
set_option maxRecDepth 100000
-- ASKS: NumL.Gd

theorem reads_words {l t : List UInt8} {R : List (List (List UInt8))} {b : Bool} (h : Reads l R t b) : ∀ x ∈ R, x.length ≤ 32 := by
  induction h with
  | bad h => simp
  | part h => simp
  | skip h hs ih => exact ih
  | some h hs ih =>
    intro x hx
    rcases List.mem_cons.1 hx with rfl | hx
    · exact (nextL_is h).1
    · exact ih x hx
/-- What is read of some bytes more. -/
theorem reads_step {X l : List UInt8} {G : List (List (List UInt8))} {bad : Bool} (h : Reads X G l bad) (z : List UInt8) :
    ∃ R t b, ReadsB bad (l ++ z) R t b ∧ Reads (X ++ z) (G ++ R) t b ∧ (bad = true → R = [] ∧ b = true) ∧ R.length ≤ (l ++ z).length := by
  cases bad with
  | false =>
    obtain ⟨R, t, b, hr⟩ := reads_all (l ++ z).length (l ++ z) (Nat.le_refl _)
    refine ⟨R, t, b, ?_, h.more rfl hr, (fun e => by cases e), by have := hr.count; omega⟩
    unfold ReadsB
    rw [if_neg (by decide)]
    exact hr
  | true =>
    refine ⟨[], l ++ z, true, ?_, ?_, fun _ => ⟨rfl, rfl⟩, Nat.zero_le _⟩
    · unfold ReadsB
      rw [if_pos rfl]
      exact ⟨rfl, rfl, rfl⟩
    · rw [List.append_nil]
      exact h.more_bad rfl z
theorem take_chunk (B : List UInt8) (o x : Nat) (h : o ≤ x) : B.take o ++ (B.drop o).take (x - o) = B.take x := by
  have e : x = o + (x - o) := by omega
  conv => rhs; rw [e]
  exact List.take_add.symm
/-- The four places at which the bytes are cut. -/
def Box (F : Nat → Prop) (w : World) (b : Nat) (X : Nat → Nat) : Prop := b < w.heap.size ∧ ¬ F b ∧ ∀ j, j < 4 → w.cell? ⟨b, j, none⟩ = some (.int .u16 (X j : Int))
theorem Box.turn {F F' : Nat → Prop} {w w' : World} {b : Nat} {X : Nat → Nat} (h : Box F w b X) (ht : Turn F w w' F') : Box F' w' b X :=
  ⟨Nat.lt_of_lt_of_le h.1 ht.size, ht.off h.1 h.2.1, fun j hj => by rw [ht.cell (a := ⟨b, j, none⟩) h.1 h.2.1]; exact h.2.2 j hj⟩
theorem bsoff_new {F : Nat → Prop} {w w' : World} {p : Option Addr} {l : List UInt8} (h : Bs w p l) (hb : Below w.heap.size w w') (hF : ∀ k, F k → w.heap.size ≤ k) : BsOff F w' p l := bs_new h hb hF
theorem box_new {w w' : World} {F : Nat → Prop} {b : Nat} {X : Nat → Nat} (h : b < w.heap.size) (hb : Below w.heap.size w w') (hF : ∀ k, F k → w.heap.size ≤ k) (hc : ∀ j, j < 4 → w.cell? ⟨b, j, none⟩ = some (.int .u16 (X j : Int))) : Box F w' b X :=
  ⟨Nat.lt_of_lt_of_le h hb.size, fun hf => by have := hF b hf; omega, fun j hj => by rw [hb.cell (p := ⟨b, j, none⟩) h]; exact hc j hj⟩
theorem cut_at (o n x : Nat) (ho : o ≤ n) (hn : n ≤ 1500) (hx : x ≤ 65535) : ∃ nx : Nat, wrap64 ((o : Int) + (x : Int) % ((n : Int) - (o : Int) + 1)) = (nx : Int) ∧ o ≤ nx ∧ nx ≤ n := by
  have e : (x : Int) % ((n : Int) - (o : Int) + 1) = ((x % (n - o + 1) : Nat) : Int) := by
    rw [Int.natCast_emod]
    congr 1
    omega
  have hlt := Nat.mod_lt x (show 0 < n - o + 1 by omega)
  refine ⟨o + x % (n - o + 1), ?_, by omega, by omega⟩
  rw [e]
  unfold wrap64
  omega
def four (x0 x1 x2 x3 : Nat) : Nat → Nat
  | 0 => x0
  | 1 => x1
  | 2 => x2
  | _ => x3
theorem four_cells (w : World) (x0 x1 x2 x3 : Nat) (t : TypeId) : ∀ j, j < 4 → (w.alloc (.cells #[.int .u16 (x0 : Int), .int .u16 (x1 : Int), .int .u16 (x2 : Int), .int .u16 (x3 : Int)] t)).cell? ⟨w.heap.size, j, none⟩ = some (.int .u16 (four x0 x1 x2 x3 j : Int)) := fun j hj => by
  have hh := heap_alloc_last w (.cells #[.int .u16 (x0 : Int), .int .u16 (x1 : Int), .int .u16 (x2 : Int), .int .u16 (x3 : Int)] t)
  match j, hj with
  | 0, _ => rw [cell_of_row _ _ _ _ _ _ hh]; rfl
  | 1, _ => rw [cell_of_row _ _ _ _ _ _ hh]; rfl
  | 2, _ => rw [cell_of_row _ _ _ _ _ _ hh]; rfl
  | 3, _ => rw [cell_of_row _ _ _ _ _ _ hh]; rfl

set_option maxHeartbeats 4000000 in
theorem walk0 (p : Option Addr) (B : List UInt8) (n c : Nat) (x0 x1 x2 x3 : Nat) (q : Option Addr) (M : List UInt8) (m d : Nat) (w : World) (hn : B.length = n) (hb : Bs w p B) (hc : n ≤ c) (hcm : c ≤ 9223372036854775807) (hnil : p = none → c = 0)
    (hx0 : x0 ≤ 65535) (hx1 : x1 ≤ 65535) (hx2 : x2 ≤ 65535) (hx3 : x3 ≤ 65535)
    (hm : M.length = m) (hbm : Bs w q M) (hd : m ≤ d) (hdm : d ≤ 9223372036854775807) (hnilm : q = none → d = 0) (hg : Gd w) :
    Calls Tryd.prog 4 #[.slice p n c, .agg #[.int .u16 (x0 : Int), .int .u16 (x1 : Int), .int .u16 (x2 : Int), .int .u16 (x3 : Int)], .slice q m d] w fun e w' => e = .returned (.bool true) ∧ Below w.heap.size w w' := by
  have HG := Lib.hid hg
  have HB0 := Lib.hid (below1 w (.cells #[.int .u16 (x0 : Int), .int .u16 (x1 : Int), .int .u16 (x2 : Int), .int .u16 (x3 : Int)] 35))
  have HC0 := Lib.hid (four_cells w x0 x1 x2 x3 35)
  have HX : ∀ j, four x0 x1 x2 x3 j ≤ 65535 := fun j => by
    match j with
    | 0 => exact hx0
    | 1 => exact hx1
    | 2 => exact hx2
    | _ + 3 => exact hx3
  have HXs := Lib.hid HX
  obtain ⟨X, hX⟩ : ∃ X, X = four x0 x1 x2 x3 := ⟨_, rfl⟩
  rw [← hX] at HC0 HXs
  obtain ⟨w0, hw0⟩ : ∃ w0, w0 = w.alloc (.cells #[.int .u16 (x0 : Int), .int .u16 (x1 : Int), .int .u16 (x2 : Int), .int .u16 (x3 : Int)] 35) := ⟨_, rfl⟩
  have CS0 := Lib.hid (shown_any w0 (by rw [hw0]; exact HG.out.keep HB0.out))
  have HBs := Lib.hid hb
  have HBm := Lib.hid hbm
  have HN := Lib.hid hn
  have HM := Lib.hid hm
  have HNil := Lib.hid hnil
  have HNilm := Lib.hid hnilm
  have hlt0 : w.heap.size < w0.heap.size := by rw [hw0]; exact alloc_lt w _ _
  have HW0 := Lib.hid hw0
  clear hg hX hn hb hnil hm hbm hnilm HX hx0 hx1 hx2 hx3
  go_enter Tryd.func4, Tryd.ntmps4
  go_wp2_with fail
  rw [← hw0]
  rw [← hw0] at HB0 HC0
  clear hw0
  refine CS0.out.mono ?_
  rintro e w1 ⟨rfl, hb1⟩
  have HB1 := Lib.hid (HB0.out.trans (hb1.mono HB0.out.size))
  have HBs1 := Lib.hid (HBs.out.keep HB1.out)
  have HBm1 := Lib.hid (HBm.out.keep HB1.out)
  have HC1 := Lib.hid (show ∀ j, j < 4 → w1.cell? ⟨w.heap.size, j, none⟩ = some (.int .u16 (X j : Int)) from fun j hj => by rw [hb1.cell (p := ⟨w.heap.size, j, none⟩) hlt0]; exact HC0.out j hj)
  have hlt1 : w.heap.size < w1.heap.size := Nat.lt_of_lt_of_le hlt0 hb1.size
  have CSh := Lib.hid (short_any p B n c w1 HN.out HBs1.out hc hcm HNil.out)
  clear hb1 CS0 HBs HBm HB0 HC0 hlt0 HW0
  go_wp2_with fail
  refine CSh.out.mono ?_
  rintro e w2 ⟨rfl, p1, n1, rfl, hn1, hB1, hn15, hc1, hnil1⟩
  obtain ⟨B1, hB1e⟩ : ∃ B1, B1 = B.take 1500 := ⟨_, rfl⟩
  rw [← hB1e] at hn1 hB1
  have HN1 := Lib.hid hn1
  have HB1s := Lib.hid hB1
  have HNil1 := Lib.hid hnil1
  have CW := Lib.hid (new_rd w2 (HG.out.keep HB1.out))
  clear hn1 hB1 hnil1 hB1e CSh HBs1 HN HNil
  go_wp2_with fail
  refine CW.out.mono ?_
  rintro e w3 ⟨a, F, rfl, hR3, hF3, hb3⟩
  have HB3 := Lib.hid (HB1.out.trans (hb3.mono HB1.out.size))
  have HF3 := Lib.hid (show ∀ k, F k → w.heap.size ≤ k from fun k hk => by have := hF3 k hk; omega)
  have HBox := Lib.hid (box_new hlt1 hb3 hF3 HC1.out)
  have HBo := Lib.hid (bs_new HB1s.out hb3 hF3)
  have HMo := Lib.hid (bs_new HBm1.out hb3 hF3)
  have HO3 := Lib.hid (OwnT.new (F := F) (base := w3.heap.size) (w := w3) (Nat.le_refl _) (rd_lt hR3))
  have hal := below1 w3 (.cells #[] 23)
  have HR3 := Lib.hid (rd_below hR3 hal)
  have HT3 := Lib.hid (Turn.of_below (F := F) hal)
  have HRd0 := Lib.hid (show Reads (B1.take 0) [] [] false from Reads.part rfl)
  clear hR3 hF3 hb3 hal CW HC1 HB1s HBm1 hlt1 HB1
  go_wp2_with fail
  go_loopw [9, 10, 11, 12] (fun g la oo ii wr => ∃ (k o ng cg : Nat) (gq : Option Addr) (er : Int) (bad : Bool) (G : List (List (List UInt8))) (l : List UInt8) (F' : Nat → Prop), g = .slice gq ng cg ∧ la = .int .i64 er ∧ oo = .int .i64 o ∧ ii = .int .i64 k ∧ k ≤ 5 ∧ o ≤ n1 ∧ Hid (er = if bad = true then 10 else 0) ∧ Hid (k = 5 → o = n1) ∧ Hid (G.length = ng) ∧ Hid (OwnT F' w3.heap.size wr (.slice gq ng cg) G) ∧ Hid (Reads (B1.take o) G l bad) ∧ Hid (Rd wr F' (.pointer (some a)) l bad) ∧ Hid (Turn F w3 wr F')) (fun _ _ _ ii _ => 5 - (intOf ii).toNat)
  case atStart => exact ⟨0, 0, 0, 0, _, 0, false, [], [], F, rfl, rfl, rfl, rfl, by omega, Nat.zero_le _, Lib.hid rfl, Lib.hid (fun h => by cases h), Lib.hid rfl, HO3, HRd0, HR3, HT3⟩
  case round =>
    obtain ⟨k, o, ng, cg, gq, er, bad, G, l, F', rfl, rfl, rfl, rfl, hk, ho, HE, HK, HNG, HO, HRd, HR, HT⟩ := hrel
    clear HO3 HRd0 HR3 HT3
    have HBw := Lib.hid (HB3.out.trans (HT.out.below HF3.out HB3.out.size))
    have HFw := Lib.hid (HT.out.ge HF3.out HB3.out.size)
    have HGl := Lib.hid (show G.length + l.length ≤ 1500 by
      have h1 := HRd.out.count
      rw [List.length_take, HN1.out] at h1
      omega)
    by_cases hk5 : k < 5
    · have d0 : decide ((k : Int) < 5) = true := decide_eq_true (by omega)
      rcases Nat.lt_or_ge k 4 with hk4 | hk4
      all_goals
        first
          | have hk4' : k < 4 := hk4
            have d1 : decide ((k : Int) < 4) = true := decide_eq_true (by omega)
            have hBx := (HBox.out.turn HT.out).2.2 k hk4'
            have hxk := HXs.out k
            obtain ⟨x, hx⟩ : ∃ x, x = X k := ⟨_, rfl⟩
            rw [← hx] at hBx hxk
            clear hx
            go_upto_region 15 with fail
            obtain ⟨nx, hnx, h1, h2⟩ := cut_at o n1 x ho hn15 hxk
            rw [hnx]
            have HV := Lib.hid (rfl : Value.int .i64 (nx : Int) = Value.int .i64 (nx : Int))
            have q1 := fun W => sl_lh p1 n1 c o nx h1 (by omega) W
            have HKn := Lib.hid (show k + 1 = 5 → nx = n1 from fun h => by omega)
            clear hBx hxk hnx d1 hk4'
          | have d1 : decide ((k : Int) < 4) = false := decide_eq_false (by omega)
            go_upto_region 15 with fail
            obtain ⟨nx, hnx⟩ : ∃ nx, nx = n1 := ⟨_, rfl⟩
            have HV := Lib.hid (show Value.int .i64 (n1 : Int) = Value.int .i64 (nx : Int) by rw [hnx])
            have h1 : o ≤ nx := by omega
            have h2 : nx ≤ n1 := by omega
            have q1 := fun W => sl_lh p1 n1 c o nx h1 (by omega) W
            rw [show ((nx : Nat) : Int) = (n1 : Int) by omega] at q1
            have HKn := Lib.hid (fun (_ : k + 1 = 5) => hnx)
            clear hnx d1
        obtain ⟨P, hP⟩ : ∃ P, P = ReplyT.partAt p1 c o := ⟨_, rfl⟩
        have hBc := HBo.out.turn HT.out
        obtain ⟨R, t, b', hr1, hr2, hr3, hr4⟩ := reads_step HRd.out ((B1.drop o).take (nx - o))
        rw [take_chunk B1 o nx h1] at hr2
        have CF := Lib.hid (feed_rd wr F' a l bad P ((B1.drop o).take (nx - o)) (nx - o) (c - o) HR.out (by rw [List.length_take, List.length_drop, HN1.out]; omega) (by rw [hP]; exact partAt_bs hBc.1 (by rw [HN1.out]; exact hc1) o nx (by rw [HN1.out]; exact h2)) (by omega) (by omega) (by rw [hP]; exact partAt_none HNil1.out) (by have := HGl.out; omega) (HG.out.keep HBw.out))
        rw [← hP] at q1
        obtain ⟨L, hL⟩ : ∃ L, L = l ++ (B1.drop o).take (nx - o) := ⟨_, rfl⟩
        have HLl := Lib.hid (show L.length ≤ 1500 by
          have h3 := HGl.out
          rw [hL, List.length_append, List.length_take, List.length_drop, HN1.out]
          have h4 := HRd.out.count
          rw [List.length_take, HN1.out] at h4
          omega)
        rw [← hL] at CF hr1 hr4
        obtain ⟨nr, hnr⟩ : ∃ nr, nr = R.length := ⟨_, rfl⟩
        have HNr := Lib.hid hnr
        have HR1 := Lib.hid hr1
        have HR2 := Lib.hid hr2
        have HR3 := Lib.hid hr3
        have hr5 : R.length ≤ 1500 := Nat.le_trans hr4 HLl.out
        have HR5 := Lib.hid hr5
        have HKk := Lib.hid hk
        obtain ⟨er', her'⟩ : ∃ er' : Int, er' = if b' = true then 10 else 0 := ⟨_, rfl⟩
        have HE' := Lib.hid her'
        clear hP hBc hr1 hr2 hr3 hr4 hL hnr hr5 her' HR hk
        go_wp2_with fail
        refine CF.out.mono ?_
        rintro e w4 ⟨F4, rfl, hR4, hT4⟩
        have HT4 := Lib.hid (HT.out.trans hT4)
        have HB4 := Lib.hid (HB3.out.trans (HT4.out.below HF3.out HB3.out.size))
        have HF4 := Lib.hid (HT4.out.ge HF3.out HB3.out.size)
        have HO4 := Lib.hid (HO.out.turn hT4)
        have CR := Lib.hid (read2_any w4 F4 a L bad R t b' 2000 hR4 HR1.out (by have := HR5.out; omega) (by decide) (by have := HLl.out; omega) w.heap.size HB4.out.size HF4.out (fun W hW => HG.out.keep (HB4.out.trans hW)))
        clear hR4 hT4 CF HO HT HBw HFw
        go_wp2_with fail
        refine CR.out.mono ?_
        rintro e w5 ⟨ad, cr, F5, rfl, hO5, hR5, hT5⟩
        rw [← HNr.out, ← HE'.out]
        rw [← HNr.out] at hO5
        obtain ⟨us, hus1, hus2, hus3⟩ := ownT_cells hO5 HNr.out.symm
        have HT5 := Lib.hid (HT4.out.trans hT5)
        have HO5 := Lib.hid (HO4.out.turn hT5)
        have HUn := Lib.hid (rows_new hus3 (fun k hk => FrameL.ownT_lt HO4.out k hk))
        have HUo := Lib.hid (rows_one (by rw [hus1]; exact HNr.out) hus3)
        have HU1 := Lib.hid hus1
        have HU2 := Lib.hid hus2
        have HFl := Lib.hid (rd_lt hR5)
        have HR6 := Lib.hid hR5
        have HSz := Lib.hid (show G.length + nr ≤ 1048576 by have h1 := HGl.out; have h2 := HR5.out; have h3 := HNr.out; omega)
        clear hO5 hR5 hT5 hus1 hus2 hus3 CR HO4 HT4 HB4 HF4
        cases bad with
        | false =>
          obtain rfl : er = 0 := HE.out
          go_wp2_with (at_builtin; refine wpList_append_t (F0 := F) (w0 := w3) rfl (.tmp 78) (.tmp 79) rfl (.slice gq ng cg) G rfl HO5.out HT5.out HFl.out ad nr cr us R rfl HU1.out HNr.out.symm HU2.out HUn.out HUo.out HSz.out _ rfl ?_; intro v6 w6 hO6 hT6 hk6 hs6)
          have HR7 := Lib.hid (rd_keep HR6.out hk6 hs6)
          obtain ⟨q6, c6, rfl⟩ := hO6.form
          have HO6 := Lib.hid hO6
          have HT6 := Lib.hid hT6
          clear hO6 hT6 hk6 hs6
          go_roundw
          case rel => exact ⟨k + 1, nx, (G ++ R).length, c6, q6, er', b', G ++ R, t, F5, rfl, rfl, (by first | rfl | exact HV.out), by go_num, by omega, by omega, HE', HKn, Lib.hid rfl, HO6, HR2, HR7, HT6⟩
          case measure => simp [intOf]; omega
        | true =>
          obtain rfl : er = 10 := HE.out
          obtain ⟨e1, e2⟩ := HR3.out rfl
          obtain rfl : er' = 10 := by rw [HE'.out, e2]; rfl
          obtain rfl : nr = 0 := by rw [HNr.out, e1]; rfl
          clear e1 e2
          go_wp2_with (at_builtin; refine wpList_append_t (F0 := F) (w0 := w3) rfl (.tmp 78) (.tmp 79) rfl (.slice gq ng cg) G rfl HO5.out HT5.out HFl.out ad 0 cr us R rfl HU1.out HNr.out.symm HU2.out HUn.out HUo.out HSz.out _ rfl ?_; intro v6 w6 hO6 hT6 hk6 hs6)
          have HR7 := Lib.hid (rd_keep HR6.out hk6 hs6)
          obtain ⟨q6, c6, rfl⟩ := hO6.form
          have HO6 := Lib.hid hO6
          have HT6 := Lib.hid hT6
          clear hO6 hT6 hk6 hs6
          go_roundw
          case rel => exact ⟨k + 1, nx, (G ++ R).length, c6, q6, 10, b', G ++ R, t, F5, rfl, rfl, (by first | rfl | exact HV.out), by go_num, by omega, by omega, HE', HKn, Lib.hid rfl, HO6, HR2, HR7, HT6⟩
          case measure => simp [intOf]; omega
    · have d0 : decide ((k : Int) < 5) = false := decide_eq_false (by omega)
      have hon : o = n1 := HK.out (by omega)
      have HRe := Lib.hid (show Reads B1 G l bad by
        have h := HRd.out
        rwa [hon, List.take_of_length_le (by rw [HN1.out]; exact Nat.le_refl _)] at h)
      have CA := Lib.hid (rall p1 B1 n1 c wr G l bad HN1.out (HBo.out.turn HT.out).1 hc1 hcm (by omega) HNil1.out HRe.out (by have := HGl.out; omega))
      obtain ⟨nl, hnl⟩ : ∃ nl, nl = l.length := ⟨_, rfl⟩
      rw [← hnl] at CA
      have HNl := Lib.hid hnl
      have zl : ((nl : Int) != (nl : Int)) = false := bne_self_eq_false _
      clear hon HK hk hnl
      go_wp2_with fail
      refine CA.out.mono ?_
      rintro e w7 ⟨q7, c7, m7, rfl, hm7, hO7, hb7⟩
      obtain rfl : ng = m7 := by rw [← HNG.out, hm7]
      have HB7 := Lib.hid (HBw.out.trans (hb7.mono HBw.out.size))
      obtain ⟨q0, c0, hv0, hts0, -⟩ := (HO.out.keep hb7).ts
      injection hv0 with e1 e2 e3
      subst e1 e3
      clear e2
      obtain ⟨q8, c8, hv8, hts8, -⟩ := hO7.ts
      injection hv8 with e1 e2 e3
      subst e1 e3
      clear e2
      have CS := Lib.hid (same_any F' (fun _ => False) gq q7 G G ng ng cg c7 w7 HNG.out HNG.out hts0 hts8 (by have h1 := HNG.out; have h2 := HGl.out; omega) (fun x hx => Nat.le_trans (reads_words HRe.out x hx) (by decide)))
      rw [decide_eq_true (rfl : G = G)] at CS
      have HR8 := Lib.hid (rd_below HR.out hb7)
      have HM8 := Lib.hid ((HMo.out.turn HT.out).turn (Turn.of_below (F := F') hb7))
      clear hm7 hO7 hb7 hts0 hts8 CA HO HR HBw HNG HT
      go_wp2_with fail
      with_reducible refine CS.out.mono ?_
      rintro e w8 ⟨rfl, hb8⟩
      have HB8 := Lib.hid (HB7.out.trans (hb8.mono HB7.out.size))
      have HR9 := Lib.hid (rd_below HR8.out hb8)
      have HM9 := Lib.hid (HM8.out.turn (Turn.of_below (F := F') hb8))
      have CL := Lib.hid (left_rd w8 F' a l bad HR9.out (HG.out.keep HB8.out))
      rw [← HNl.out] at CL
      clear hb8 CS HR8 HM8 HB7
      cases bad with
      | false =>
        obtain rfl : er = 0 := HE.out
        go_wp2_with fail
        refine CL.out.mono ?_
        rintro e w9 ⟨rfl, hb9⟩
        have HB9 := Lib.hid (HB8.out.trans (hb9.mono HB8.out.size))
        clear hb9
        go_wp2_with fail
        go_ret
        exact ⟨rfl, HB9.out⟩
      | true =>
        obtain rfl : er = 10 := HE.out
        go_wp2_with fail
        refine CL.out.mono ?_
        rintro e w9 ⟨rfl, hb9⟩
        have HB9 := Lib.hid (HB8.out.trans (hb9.mono HB8.out.size))
        have HR10 := Lib.hid (rd_below HR9.out hb9)
        have HM10 := Lib.hid (HM9.out.turn (Turn.of_below (F := F') hb9))
        have CSh2 := Lib.hid (short_any q M m d w9 HM.out HM10.out.1 hd hdm HNilm.out)
        clear hb9 HR9 HM9 HB8 CL
        go_wp2_with fail
        refine CSh2.out.mono ?_
        rintro e w10 ⟨rfl, q10, m10, rfl, hn10, hB10, hn15', hc10, hnil10⟩
        obtain ⟨M1, hM1⟩ : ∃ M1, M1 = M.take 1500 := ⟨_, rfl⟩
        rw [← hM1] at hn10 hB10
        have CF := Lib.hid (feed_rd w10 F' a l true q10 M1 m10 d HR10.out hn10 hB10 hc10 hdm hnil10 (by have := HGl.out; omega) (HG.out.keep HB9.out))
        have HLm := Lib.hid (show (l ++ M1).length ≤ 65536 by rw [List.length_append, hn10]; have := HGl.out; omega)
        obtain ⟨Z, hZ⟩ : ∃ Z, Z = l ++ M1 := ⟨_, rfl⟩
        rw [← hZ] at CF HLm
        clear hM1 hn10 hB10 hn15' hc10 hnil10 CSh2 HM10 hZ
        go_wp2_with fail
        refine CF.out.mono ?_
        rintro e w11 ⟨F11, rfl, hR11, hT11⟩
        have HB11 := Lib.hid (HB9.out.trans (hT11.below HFw.out HB9.out.size))
        have HF11 := Lib.hid (hT11.ge HFw.out HB9.out.size)
        have CN : Hid (Calls Tryd.prog 23 #[.pointer (some a)] w11 (fun e w' => ∃ F2 u, e = .returned (.tuple #[u, .bool false, .int .i64 10]) ∧ AnsS w11.heap.size w' u [] ∧ OkS F2 w' u [] ∧ Rd w' F2 (.pointer (some a)) Z true ∧ Turn F11 w11 w' F2)) := Lib.hid (next_rd w11 F11 a Z true none Z true hR11 (by unfold FirstB; rw [if_pos rfl]; exact ⟨rfl, rfl, rfl⟩) HLm.out (HG.out.keep HB11.out))
        clear hR11 hT11 CF HR10 HB9
        go_wp2_with fail
        refine (show Calls _ _ _ _ _ from CN.out).mono ?_
        rintro e w12 ⟨F12, u12, rfl, ha12, hok12, hR12, hT12⟩
        obtain ⟨q12, c12, rfl, -⟩ := FrameL.ansS_form ha12 0 rfl
        have HB12 := Lib.hid (HB11.out.trans (hT12.below HF11.out HB11.out.size))
        clear ha12 hok12 hR12 hT12 CN HB11
        go_wp2_with fail
        go_ret
        exact ⟨rfl, HB12.out⟩

theorem walk (p : Option Addr) (B : List UInt8) (n c : Nat) (x0 x1 x2 x3 : Int) (q : Option Addr) (M : List UInt8) (m d : Nat) (w : World) (hn : B.length = n) (hb : Bs w p B) (hc : n ≤ c) (hcm : c ≤ 9223372036854775807) (hnil : p = none → c = 0)
    (h00 : 0 ≤ x0) (h01 : x0 ≤ 65535) (h10 : 0 ≤ x1) (h11 : x1 ≤ 65535) (h20 : 0 ≤ x2) (h21 : x2 ≤ 65535) (h30 : 0 ≤ x3) (h31 : x3 ≤ 65535)
    (hm : M.length = m) (hbm : Bs w q M) (hd : m ≤ d) (hdm : d ≤ 9223372036854775807) (hnilm : q = none → d = 0) (hg : Gd w) :
    Calls Tryd.prog 4 #[.slice p n c, .agg #[.int .u16 x0, .int .u16 x1, .int .u16 x2, .int .u16 x3], .slice q m d] w fun e w' => e = .returned (.bool true) ∧ Below w.heap.size w w' := by
  obtain ⟨y0, rfl⟩ := Int.eq_ofNat_of_zero_le h00
  obtain ⟨y1, rfl⟩ := Int.eq_ofNat_of_zero_le h10
  obtain ⟨y2, rfl⟩ := Int.eq_ofNat_of_zero_le h20
  obtain ⟨y3, rfl⟩ := Int.eq_ofNat_of_zero_le h30
  exact walk0 p B n c y0 y1 y2 y3 q M m d w hn hb hc hcm hnil (by omega) (by omega) (by omega) (by omega) hm hbm hd hdm hnilm hg

end Go.Proofs.YtadffjmpkeaikaaDoor.frameReads
