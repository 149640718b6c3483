/-
  The landed store of layer 10: each of its calls, over its four maps.
-/
import Derived.Test.YtbcjgkedlapmhaaLstRow
import Derived.Test.YtbcjgkedlapmhaaLandOwn
import Derived.Test.YtbcjgkedlapmhaaQuietTail
import Derived.Test.YtbcjgkedlapmhaaShelfI
import Derived.Test.YtbcjgkedlapmhaaLandMath
import Derived.Deep.CutBlock
import Derived.Deep.DeepCutAuto
import Derived.Deep.RegionHeld
import Derived.Deep.RegionWith
import Derived.BigQuiet
namespace Go.Proofs.Ytbcjgkedlapmhaa.LstM
open Go.RowKit Kit StrT RowG BOrd ValT StoT MapF LstT RefV
set_option linter.unusedVariables false
set_option maxRecDepth 100000

theorem zV (w : World) : (zeroValue 35).run Try.prog w = .ok pv0.agg w := by kernel_rfl
theorem zI (w : World) : (zeroValue 3).run Try.prog w = .ok (.int .i64 0) w := by kernel_rfl
theorem pv_get (P : List UInt8 → Option PV) (k : List UInt8) : ((P k).map PV.agg).getD pv0.agg = ((P k).getD pv0).agg := by cases P k <;> rfl
def cN (C : List UInt8 → Option Nat) (k : List UInt8) : Nat := (C k).getD 0
theorem cn_get (C : List UInt8 → Option Nat) (k : List UInt8) : ((C k).map eN).getD (.int .i64 0) = .int .i64 (cN C k : Int) := by
  unfold cN
  cases C k <;> rfl
section
variable {w : World} {s : Nat} {mv md mh mc : Option Nat} {t : Int} {P : List UInt8 → Option PV} {U : List UInt8 → Option Int} {H : List UInt8 → Option Unit} {C : List UInt8 → Option Nat} {n : Nat}
set_option maxHeartbeats 4000000 in
theorem has_any (K : ByteArray) (k : List UInt8) (hK : KeyIs K k) (h : LR w s mv md mh mc t P U H C n) : Calls Try.prog 38 #[.pointer (some ⟨s, 0, none⟩), .string K] w fun e w' => e = .returned (.bool (P k).isSome) ∧ Below w.heap.size w w' := by
  have HR := Lib.hid h
  have HK := Lib.hid hK
  obtain ⟨q, hq⟩ : ∃ q, q = (P k).getD pv0 := ⟨_, rfl⟩
  obtain ⟨r, hr⟩ : ∃ r, r = (P k).isSome := ⟨_, rfl⟩
  rw [← hr]
  have HV := Lib.hid (show (if true then Value.tuple #[((P k).map PV.agg).getD pv0.agg, .bool (P k).isSome] else ((P k).map PV.agg).getD pv0.agg) = .tuple #[.agg #[.int .u8 q.k, .string q.S, .slice q.ql q.nl q.cl, .slice q.qh q.nh q.ch, .slice q.qz q.nz q.cz], .bool r] by
    rw [if_pos rfl, pv_get, ← hq, ← hr]
    rfl)
  have c1 := h.sc.c1
  clear h hK hq hr
  go_enter Try.func38, Try.ntmps38
  go_wp2_with (at_lookup; refine wpList_look_mo rfl true (.tmp 11) (.tmp 12) rfl Try.underlying59 (zV w) rfl HR.out.v rfl HK.out _ HV.out ?_)
  go_ret
  exact ⟨rfl, (Below.refl _ _).alloc (Nat.le_refl _) _⟩
set_option maxHeartbeats 4000000 in
theorem drop_any (K : ByteArray) (k : List UInt8) (hK : KeyIs K k) (h : LR w s mv md mh mc t P U H C n) (hp : (P k).isSome = true) (hc : (C k).isSome = true) (hn : cN C k ≤ 1000000000000) (hz : n ≤ 1000000) : Calls Try.prog 39 #[.pointer (some ⟨s, 0, none⟩), .string K] w fun e w' => e = .returned (.tuple #[]) ∧ LR w' s mv md mh mc t (updO P k none) (updO U k none) H (updO C k (some (cN C k + 1))) n ∧ Off (FL s mv md mh mc) w w' := by
  obtain ⟨b, hb⟩ := h.c.there hc
  subst hb
  have HR := Lib.hid h
  have HK := Lib.hid hK
  have HC := Lib.hid hc
  have HV := Lib.hid (show (if false then Value.tuple #[((C k).map eN).getD (.int .i64 0), .bool (C k).isSome] else ((C k).map eN).getD (.int .i64 0)) = .int .i64 (cN C k : Int) by
    rw [if_neg (by simp), cn_get])
  have HM := Lib.hid (show n < maxLen by unfold maxLen; omega)
  obtain ⟨x, hx⟩ : ∃ x, x = cN C k := ⟨_, rfl⟩
  rw [← hx] at HV hn ⊢
  have x1 : wrap64 ((x : Int) + 1) = (x : Int) + 1 := by unfold wrap64; omega
  have c1 := h.sc.c1
  clear h hK hx hc hp hz
  go_enter Try.func39, Try.ntmps39
  go_wp2_with (first
    | (at_delete; refine wpList_drop_mo rfl (.tmp 7) (.tmp 8) rfl Try.underlying59 rfl HR.out.v rfl HK.out ?_; intro w1 hm1 ht1; have HR1 := Lib.hid (HR.out.turnV ht1 hm1 (Nat.le_refl _)); have HO1 := Lib.hid (off_to (F := FL s mv md mh (some b)) ht1 flV); clear hm1 ht1 c1; have c2 := HR1.out.sc.c2)
    | (at_delete; refine wpList_drop_mo rfl (.tmp 12) (.tmp 13) rfl Try.underlying60 rfl HR1.out.d rfl HK.out ?_; intro w2 hm2 ht2; have HR2 := Lib.hid (HR1.out.turnD ht2 hm2 (Nat.le_refl _)); have HO2 := Lib.hid (Off.on HO1.out (off_to ht2 flD)); clear hm2 ht2 c2; have c4 := HR2.out.sc.c4)
    | (at_lookup; refine wpList_look_mo rfl false (.tmp 17) (.tmp 18) rfl Try.underlying60 (zI _) rfl HR2.out.c rfl HK.out _ HV.out ?_)
    | (at_mapUpdate; refine wpList_store_mo rfl (.tmp 17) (.tmp 18) (.tmp 20) rfl Try.underlying60 HM.out rfl HR2.out.c rfl HK.out (x + 1) rfl ?_; intro w3 hm3 ht3; rw [if_pos HC.out] at hm3; have HR3 := Lib.hid (HR2.out.turnC ht3 hm3 (Nat.le_refl _)); have HO3 := Lib.hid (Off.on HO2.out (off_to ht3 flC)); clear hm3 ht3 c4))
  go_end0
  exact ⟨rfl, HR3.out, HO3.out⟩
end

end Go.Proofs.Ytbcjgkedlapmhaa.LstM
namespace Go.Proofs.Ytbcjgkedlapmhaa.LstM
open Go.RowKit Kit StrT RowG BOrd ValT StoT MapF LstT RefV ValM
set_option linter.unusedVariables false
set_option maxRecDepth 100000

section
variable {w : World} {s : Nat} {mv md mh mc : Option Nat} {t : Int} {P : List UInt8 → Option PV} {U : List UInt8 → Option Int} {H : List UInt8 → Option Unit} {C : List UInt8 → Option Nat} {n : Nat}
set_option maxHeartbeats 4000000 in
theorem version_any (K : ByteArray) (k : List UInt8) (hK : KeyIs K k) (h : LR w s mv md mh mc t P U H C n) : Calls Try.prog 31 #[.pointer (some ⟨s, 0, none⟩), .string K] w fun e w' => e = .returned (.int .i64 (cN C k : Int)) ∧ w' = w := by
  have HR := Lib.hid h
  have HK := Lib.hid hK
  have HV := Lib.hid (show (if false then Value.tuple #[((C k).map eN).getD (.int .i64 0), .bool (C k).isSome] else ((C k).map eN).getD (.int .i64 0)) = .int .i64 (cN C k : Int) by
    rw [if_neg (by simp), cn_get])
  obtain ⟨x, hx⟩ : ∃ x, x = cN C k := ⟨_, rfl⟩
  rw [← hx] at HV ⊢
  have c4 := h.sc.c4
  clear h hK hx
  go_enter Try.func31, Try.ntmps31
  go_wp2_with (at_lookup; refine wpList_look_mo rfl false (.tmp 8) (.tmp 9) rfl Try.underlying60 (zI _) rfl HR.out.c rfl HK.out _ HV.out ?_)
  go_ret
  exact ⟨rfl, rfl⟩
set_option maxHeartbeats 4000000 in
theorem now_any (h : LR w s mv md mh mc t P U H C n) : Calls Try.prog 30 #[.pointer (some ⟨s, 0, none⟩)] w fun e w' => e = .returned (.int .i64 t) ∧ w' = w := by
  have c0 := h.sc.c0
  clear h
  go_enter Try.func30, Try.ntmps30
  go_wp2_with fail
  go_ret
  exact ⟨rfl, rfl⟩
/-- A deadline, and whether there is one. -/
def dU (U : List UInt8 → Option Int) (k : List UInt8) : Int × Bool := ((U k).getD 0, (U k).isSome)
set_option maxHeartbeats 4000000 in
theorem due_any (K : ByteArray) (k : List UInt8) (hK : KeyIs K k) (h : LR w s mv md mh mc t P U H C n) : Calls Try.prog 23 #[.pointer (some ⟨s, 0, none⟩), .string K] w fun e w' => e = .returned (.tuple #[.int .i64 (dU U k).1, .bool (dU U k).2]) ∧ LR w' s mv md mh mc t P U (updO H k none) C n ∧ Off (FL s mv md mh mc) w w' := by
  have HR := Lib.hid h
  have HK := Lib.hid hK
  have HV := Lib.hid (show (if true then Value.tuple #[((U k).map eI).getD (.int .i64 0), .bool (U k).isSome] else ((U k).map eI).getD (.int .i64 0)) = .tuple #[.int .i64 (dU U k).1, .bool (dU U k).2] by
    rw [if_pos rfl]
    unfold dU
    cases U k <;> rfl)
  obtain ⟨x, y, hx⟩ : ∃ x y, (x, y) = dU U k := ⟨_, _, rfl⟩
  rw [← hx] at HV ⊢
  have c3 := h.sc.c3
  clear h hK hx
  simp only at HV ⊢
  go_enter Try.func23, Try.ntmps23
  go_wp2_with (first
    | (at_delete; refine wpList_drop_mo rfl (.tmp 11) (.tmp 12) rfl Try.underlying61 rfl HR.out.h rfl HK.out ?_; intro w1 hm1 ht1; have HR1 := Lib.hid (HR.out.turnH ht1 hm1 (Nat.le_refl _)); have HO1 := Lib.hid (off_to (F := FL s mv md mh mc) ht1 flH); clear hm1 ht1 c3; have c2 := HR1.out.sc.c2)
    | (at_lookup; refine wpList_look_mo rfl true (.tmp 17) (.tmp 18) rfl Try.underlying60 (zI _) rfl HR1.out.d rfl HK.out _ HV.out ?_))
  go_ret2
  exact ⟨rfl, HR1.out, HO1.out⟩
theorem off_five' {F : Nat → Prop} {w0 w : World} {g : Nat} (h : Off F w0 w) (hg : w0.heap.size ≤ g) (y0 y1 y2 y3 y4 : Value) : Off F w0 (five w g y0 y1 y2 y3 y4) := by
  have hb := five_below (Below.refl g w) (Nat.le_refl g) y0 y1 y2 y3 y4
  exact ⟨hb.os.trans h.os, hb.tape.trans h.tape, hb.output.trans h.output, Nat.le_trans h.size hb.size, fun k hk hF => by rw [hb.block k (by omega)]; exact h.block k hk hF⟩
/-- What a key has, as it lies. -/
def gP (P : List UInt8 → Option PV) (k : List UInt8) : PV := (P k).getD pv0
set_option maxHeartbeats 8000000 in
theorem get_any (K : ByteArray) (k : List UInt8) (hK : KeyIs K k) (h : LR w s mv md mh mc t P U H C n) (hp : (gP P k).In w) (hr : ∀ j, (gP P k).at_ j → j < w.heap.size ∧ ¬ FL s mv md mh mc j) :
    Calls Try.prog 13 #[.pointer (some ⟨s, 0, none⟩), .string K] w fun e w' => ∃ p : PV, e = .returned p.agg ∧ p.In w' ∧ p.d = (gP P k).d ∧ (∀ j, p.at_ j → w.heap.size ≤ j ∧ j < w'.heap.size) ∧ LR w' s mv md mh mc t P U (updO H k none) C n ∧ Off (FL s mv md mh mc) w w' := by
  have HK := Lib.hid hK
  obtain ⟨q, hq⟩ : ∃ q, q = gP P k := ⟨_, rfl⟩
  rw [← hq] at hp hr ⊢
  have HV := Lib.hid (show (if false then Value.tuple #[((P k).map PV.agg).getD pv0.agg, .bool (P k).isSome] else ((P k).map PV.agg).getD pv0.agg) = .agg #[.int .u8 q.k, .string q.S, .slice q.ql q.nl q.cl, .slice q.qh q.nh q.ch, .slice q.qz q.nz q.cz] by
    rw [if_neg (by simp), pv_get, hq]
    rfl)
  have HZ := Lib.hid (VCells.new w (.int .u8 0) (.string ⟨#[]⟩) (.slice none 0 0) (.slice none 0 0) (.slice none 0 0) w.heap.size rfl)
  have hb0 := (Below.refl w.heap.size w).alloc (Nat.le_refl _) (.cells #[.int .u8 0, .string ⟨#[]⟩, .slice none 0 0, .slice none 0 0, .slice none 0 0] 35)
  have HR := Lib.hid (h.keep hb0)
  have HB := Lib.hid hb0
  have HP := Lib.hid hp
  have HQ := Lib.hid hr
  have HL := Lib.hid h.lt
  have HSz := Lib.hid (pv_sizes hp)
  have c3 := HR.out.sc.c3
  clear h hK hp hr hq hb0
  go_enter Try.func13, Try.ntmps13
  go_upto_region 1 with fail
  generalize w.alloc (.cells #[.int .u8 0, .string ⟨#[]⟩, .slice none 0 0, .slice none 0 0, .slice none 0 0] 35) = w1 at HZ HR HB c3 ⊢
  obtain ⟨g, hg⟩ : ∃ g, g = w.heap.size := ⟨_, rfl⟩
  rw [← hg] at HZ ⊢
  go_wp2_with (first
    | (at_delete; refine wpList_drop_mo rfl (.tmp 8) (.tmp 9) rfl Try.underlying61 rfl HR.out.h rfl HK.out ?_; intro w2 hm1 ht1; have HR1 := Lib.hid (HR.out.turnH ht1 hm1 (Nat.le_refl _)); have HO1 := Lib.hid (off_to (F := FL s mv md mh mc) ht1 flH); clear hm1 ht1 c3; have c1 := HR1.out.sc.c1)
    | (at_lookup; refine wpList_look_mo rfl false (.tmp 13) (.tmp 14) rfl Try.underlying59 (zV _) rfl HR1.out.v rfl HK.out _ HV.out ?_))
  have HP2 := Lib.hid (show q.In w2 from HP.out.same (Nat.le_trans HB.out.size HO1.out.size) (fun j hj => by
    have h1 := HQ.out j hj
    rw [HO1.out.block j (Nat.lt_of_lt_of_le h1.1 HB.out.size) h1.2, HB.out.block j h1.1]))
  have HG := Lib.hid (show ¬ FL s mv md mh mc g from fun h => by have := HL.out g h; omega)
  have CO := Lib.hid (own_any q.k q.S q.ql q.nl q.cl q.qh q.nh q.ch q.qz q.nz q.cz q.d w2 HP2.out)
  refine CO.out.mono ?_
  intro e w3 h3
  obtain ⟨p, rfl, hpi, hpd, hpa, hb3⟩ := pv_own h3 HSz.out.1 HSz.out.2.1 HSz.out.2.2.1 HSz.out.2.2.2
  have HPi := Lib.hid hpi
  have HPd := Lib.hid hpd
  have HPa := Lib.hid hpa
  have HB3 := Lib.hid hb3
  have HZ3 := Lib.hid (show VCells w3 g _ _ _ _ _ from VCells.of (by rw [hb3.block g (by have := HO1.out.size; have := HZ.out.lt; omega), HO1.out.block g HZ.out.lt HG.out]; exact HZ.out.hp))
  have HR3 := Lib.hid (HR1.out.keep hb3)
  have HW := Lib.hid (Nat.le_trans HB.out.size HO1.out.size)
  have HO3 := Lib.hid (Off.on (Off.on (Off.of_below (F := FL s mv md mh mc) HB.out) HO1.out) (Off.of_below (F := FL s mv md mh mc) hb3))
  have HF := Lib.hid (fun x0 x1 x2 x3 x4 => show Off (FL s mv md mh mc) w (five w3 g x0 x1 x2 x3 x4) from off_five' HO3.out (by omega) x0 x1 x2 x3 x4)
  have HFR := Lib.hid (fun x0 x1 x2 x3 x4 => show LR (five w3 g x0 x1 x2 x3 x4) s mv md mh mc t P U (updO H k none) C n from HR3.out.same (fun k hk => five_other _ _ _ _ _ _ _ _ (fun e => HG.out (e ▸ hk))))
  have HFP := Lib.hid (fun x0 x1 x2 x3 x4 => show p.In (five w3 g x0 x1 x2 x3 x4) from HPi.out.same (Nat.le_of_eq (by simp [five])) (fun j hj => five_other _ _ _ _ _ _ _ _ (fun e => by
    have h1 := (HPa.out j hj).1
    have h2 := HO1.out.size
    have h3 := HZ.out.lt
    omega)))
  have hsz : ∀ x0 x1 x2 x3 x4, (five w3 g x0 x1 x2 x3 x4).heap.size = w3.heap.size := fun x0 x1 x2 x3 x4 => by simp [five]
  have HEnd := Lib.hid (show ∃ p' : PV, Ending.returned (.agg #[.int .u8 p.k, .string p.S, .slice p.ql p.nl p.cl, .slice p.qh p.nh p.ch, .slice p.qz p.nz p.cz]) = .returned p'.agg ∧ p'.In (five w3 g (.int .u8 p.k) (.string p.S) (.slice p.ql p.nl p.cl) (.slice p.qh p.nh p.ch) (.slice p.qz p.nz p.cz)) ∧ p'.d = q.d ∧ (∀ j, p'.at_ j → w.heap.size ≤ j ∧ j < (five w3 g (.int .u8 p.k) (.string p.S) (.slice p.ql p.nl p.cl) (.slice p.qh p.nh p.ch) (.slice p.qz p.nz p.cz)).heap.size) ∧ LR (five w3 g (.int .u8 p.k) (.string p.S) (.slice p.ql p.nl p.cl) (.slice p.qh p.nh p.ch) (.slice p.qz p.nz p.cz)) s mv md mh mc t P U (updO H k none) C n ∧ Off (FL s mv md mh mc) w (five w3 g (.int .u8 p.k) (.string p.S) (.slice p.ql p.nl p.cl) (.slice p.qh p.nh p.ch) (.slice p.qz p.nz p.cz)) from
    ⟨p, rfl, HFP.out _ _ _ _ _, HPd.out, fun j hj => ⟨Nat.le_trans HW.out (HPa.out j hj).1, by rw [hsz]; exact (HPa.out j hj).2⟩, HFR.out _ _ _ _ _, HF.out _ _ _ _ _⟩)
  clear hsz
  have HCs := Lib.hid (show (Try.prog.info? 35).map (·.size) = some (#[.int .u8 p.k, .string p.S, .slice p.ql p.nl p.cl, .slice p.qh p.nh p.ch, .slice p.qz p.nz p.cz] : Array Value).size from val_size)
  have HHe := Lib.hid (val_five HZ3.out.hp (.int .u8 p.k) (.string p.S) (.slice p.ql p.nl p.cl) (.slice p.qh p.nh p.ch) (.slice p.qz p.nz p.cz))
  obtain ⟨-, -, y0, y1, y2, y3, y4⟩ := HZ3.out
  have f0 := HZ3.out.frz 0
  have f1 := HZ3.out.frz 1
  have f2 := HZ3.out.frz 2
  have f3 := HZ3.out.frz 3
  have f4 := HZ3.out.frz 4
  unfold PV.agg
  clear h3 hpi hpd hpa hb3 c1 CO
  rw [← hg]
  have HGs := Lib.hid hg
  clear hg
  go_wp2_with fail
  exact bodyPost_ret (results_cell_row rfl _ _ g 35 #[.int .u8 p.k, .string p.S, .slice p.ql p.nl p.cl, .slice p.qh p.nh p.ch, .slice p.qz p.nz p.cz] (0, 0) _ rfl HHe.out Try.underlying35 rfl HCs.out) rfl HEnd.out
end

end Go.Proofs.Ytbcjgkedlapmhaa.LstM
namespace Go.Proofs.Ytbcjgkedlapmhaa.LstM
open Go.RowKit Kit StrT RowG BOrd ValT StoT MapF LstT RefV ValM
set_option linter.unusedVariables false
set_option maxRecDepth 100000

section
variable {w : World} {s : Nat} {mv md mh mc : Option Nat} {t : Int} {P : List UInt8 → Option PV} {U : List UInt8 → Option Int} {H : List UInt8 → Option Unit} {C : List UInt8 → Option Nat} {n : Nat}
/-- What is held is let go of, then whether the key is there. -/
theorem held_has (K : ByteArray) (k : List UInt8) (hK : KeyIs K k) (b : Bool) (hb : (P k).isSome = b) : ∀ w, LR w s mv md mh mc t P U (updO H k none) C n → Calls Try.prog 38 #[.pointer (some ⟨s, 0, none⟩), .string K] w fun e w' => e = .returned (.bool b) ∧ LR w' s mv md mh mc t P U (updO H k none) C n ∧ Off (FL s mv md mh mc) w w' := fun w h => by
  refine (has_any K k hK h).mono ?_
  rintro e w' ⟨rfl, h1⟩
  exact ⟨by rw [hb], h.keep h1, Off.of_below h1⟩
set_option maxHeartbeats 4000000 in
theorem setdue_no (K : ByteArray) (k : List UInt8) (a : Int) (on : Bool) (hK : KeyIs K k) (h : LR w s mv md mh mc t P U H C n) (hp : (P k).isSome = false) :
    Calls Try.prog 15 #[.pointer (some ⟨s, 0, none⟩), .string K, .int .i64 a, .bool on] w fun e w' => e = .returned (.bool false) ∧ LR w' s mv md mh mc t P U (updO H k none) C n ∧ Off (FL s mv md mh mc) w w' := by
  have HR := Lib.hid h
  have HK := Lib.hid hK
  have CH := Lib.hid (held_has (s := s) (mv := mv) (md := md) (mh := mh) (mc := mc) (t := t) (U := U) (H := H) (C := C) (n := n) K k hK false hp)
  have c3 := h.sc.c3
  clear h hK hp
  go_enter Try.func15, Try.ntmps15
  go_wp2_with (first
    | (at_delete; refine wpList_drop_mo rfl (.tmp 12) (.tmp 13) rfl Try.underlying61 rfl HR.out.h rfl HK.out ?_; intro w1 hm1 ht1; have HR1 := Lib.hid (HR.out.turnH ht1 hm1 (Nat.le_refl _)); have HO1 := Lib.hid (off_to (F := FL s mv md mh mc) ht1 flH); clear hm1 ht1 c3)
    | (go_at_call 38; with_reducible refine (CH.out _ HR1.out).mono ?_; rintro e w2 ⟨rfl, h2, o2⟩; have HR2 := Lib.hid h2; have HO2 := Lib.hid (Off.on HO1.out o2); clear h2 o2))
  go_ret
  exact ⟨rfl, HR2.out, HO2.out⟩
set_option maxHeartbeats 4000000 in
theorem setdue_past (K : ByteArray) (k : List UInt8) (a : Int) (hK : KeyIs K k) (h : LR w s mv md mh mc t P U H C n) (hp : (P k).isSome = true) (hc : (C k).isSome = true) (hn : cN C k ≤ 1000000000000) (hz : n ≤ 1000000) (ha : a ≤ t) :
    Calls Try.prog 15 #[.pointer (some ⟨s, 0, none⟩), .string K, .int .i64 a, .bool true] w fun e w' => e = .returned (.bool true) ∧ LR w' s mv md mh mc t (updO P k none) (updO U k none) (updO H k none) (updO C k (some (cN C k + 1))) n ∧ Off (FL s mv md mh mc) w w' := by
  have HR := Lib.hid h
  have HK := Lib.hid hK
  have CH := Lib.hid (held_has (s := s) (mv := mv) (md := md) (mh := mh) (mc := mc) (t := t) (U := U) (H := H) (C := C) (n := n) K k hK true hp)
  have CD := Lib.hid (fun w h => drop_any (w := w) (s := s) (mv := mv) (md := md) (mh := mh) (mc := mc) (t := t) (P := P) (U := U) (H := updO H k none) (C := C) (n := n) K k hK h hp hc hn hz)
  have d1 : decide (a ≤ t) = true := decide_eq_true ha
  have c3 := h.sc.c3
  clear h hK hp hc hn hz
  go_enter Try.func15, Try.ntmps15
  go_wp2_with (first
    | (at_delete; refine wpList_drop_mo rfl (.tmp 12) (.tmp 13) rfl Try.underlying61 rfl HR.out.h rfl HK.out ?_; intro w1 hm1 ht1; have HR1 := Lib.hid (HR.out.turnH ht1 hm1 (Nat.le_refl _)); have HO1 := Lib.hid (off_to (F := FL s mv md mh mc) ht1 flH); clear hm1 ht1 c3)
    | (go_at_call 38; with_reducible refine (CH.out _ HR1.out).mono ?_; rintro e w2 ⟨rfl, h2, o2⟩; have HR2 := Lib.hid h2; have HO2 := Lib.hid (Off.on HO1.out o2); clear h2 o2; have c0 := HR2.out.sc.c0)
    | (go_at_call 39; with_reducible refine (CD.out _ HR2.out).mono ?_; rintro e w3 ⟨rfl, h3, o3⟩; have HR3 := Lib.hid h3; have HO3 := Lib.hid (Off.on HO2.out o3); clear h3 o3 c0))
  go_ret
  exact ⟨rfl, HR3.out, HO3.out⟩
set_option maxHeartbeats 4000000 in
theorem setdue_on (K : ByteArray) (k : List UInt8) (a : Int) (hK : KeyIs K k) (h : LR w s mv md mh mc t P U H C n) (hp : (P k).isSome = true) (hc : (C k).isSome = true) (hn : cN C k ≤ 1000000000000) (hz : n ≤ 1000000) (ha : ¬ a ≤ t) :
    Calls Try.prog 15 #[.pointer (some ⟨s, 0, none⟩), .string K, .int .i64 a, .bool true] w fun e w' => e = .returned (.bool true) ∧ LR w' s mv md mh mc t P (updO U k (some a)) (updO H k none) (updO C k (some (cN C k + 1))) (n + 1) ∧ Off (FL s mv md mh mc) w w' := by
  obtain ⟨bv, hbv⟩ := h.v.there hp
  obtain ⟨b1, b2, b3, b4, -, rfl, -, rfl⟩ := al_some h.al hbv
  clear hbv
  have HR := Lib.hid h
  have HK := Lib.hid hK
  have HC := Lib.hid hc
  have CH := Lib.hid (held_has (s := s) (mv := mv) (md := some b2) (mh := mh) (mc := some b4) (t := t) (U := U) (H := H) (C := C) (n := n) K k hK true hp)
  have HV := Lib.hid (show (if false then Value.tuple #[((C k).map eN).getD (.int .i64 0), .bool (C k).isSome] else ((C k).map eN).getD (.int .i64 0)) = .int .i64 (cN C k : Int) by
    rw [if_neg (by simp), cn_get])
  have HM := Lib.hid (show n < maxLen ∧ n + 1 < maxLen by unfold maxLen; omega)
  obtain ⟨x, hx⟩ : ∃ x, x = cN C k := ⟨_, rfl⟩
  rw [← hx] at HV hn ⊢
  have x1 : wrap64 ((x : Int) + 1) = (x : Int) + 1 := by unfold wrap64; omega
  have d1 : decide (a ≤ t) = false := decide_eq_false ha
  have c3 := h.sc.c3
  clear h hK hp hc hz hx
  go_enter Try.func15, Try.ntmps15
  go_wp2_with (first
    | (at_delete; refine wpList_drop_mo rfl (.tmp 12) (.tmp 13) rfl Try.underlying61 rfl HR.out.h rfl HK.out ?_; intro w1 hm1 ht1; have HR1 := Lib.hid (HR.out.turnH ht1 hm1 (Nat.le_refl _)); have HO1 := Lib.hid (off_to (F := FL s mv (some b2) mh (some b4)) ht1 flH); clear hm1 ht1 c3)
    | (go_at_call 38; with_reducible refine (CH.out _ HR1.out).mono ?_; rintro e w2 ⟨rfl, h2, o2⟩; have HR2 := Lib.hid h2; have HO2 := Lib.hid (Off.on HO1.out o2); clear h2 o2; have c0 := HR2.out.sc.c0; have c2 := HR2.out.sc.c2)
    | (at_mapUpdate; refine wpList_store_mo rfl (.tmp 34) (.tmp 35) (.tmp 36) rfl Try.underlying60 HM.out.1 rfl HR2.out.d rfl HK.out a rfl ?_; intro w3 hm3 ht3; have HR3 := Lib.hid (HR2.out.turnD ht3 (hm3.mono (k := n + 1) (by split <;> omega)) (Nat.le_succ _)); have HO3 := Lib.hid (Off.on HO2.out (off_to ht3 flD)); clear hm3 ht3 c0 c2; have c4 := HR3.out.sc.c4)
    | (at_lookup; refine wpList_look_mo rfl false (.tmp 45) (.tmp 46) rfl Try.underlying60 (zI _) rfl HR3.out.c rfl HK.out _ HV.out ?_)
    | (at_mapUpdate; refine wpList_store_mo rfl (.tmp 45) (.tmp 46) (.tmp 48) rfl Try.underlying60 HM.out.2 rfl HR3.out.c rfl HK.out (x + 1) rfl ?_; intro w4 hm4 ht4; rw [if_pos HC.out] at hm4; have HR4 := Lib.hid (HR3.out.turnC ht4 hm4 (Nat.le_refl _)); have HO4 := Lib.hid (Off.on HO3.out (off_to ht4 flC)); clear hm4 ht4 c4))
  go_ret
  exact ⟨rfl, HR4.out, HO4.out⟩
set_option maxHeartbeats 4000000 in
theorem setdue_off (K : ByteArray) (k : List UInt8) (a : Int) (hK : KeyIs K k) (h : LR w s mv md mh mc t P U H C n) (hp : (P k).isSome = true) (hc : (C k).isSome = true) (hn : cN C k ≤ 1000000000000) (hz : n ≤ 1000000) :
    Calls Try.prog 15 #[.pointer (some ⟨s, 0, none⟩), .string K, .int .i64 a, .bool false] w fun e w' => e = .returned (.bool true) ∧ LR w' s mv md mh mc t P (updO U k none) (updO H k none) (updO C k (some (cN C k + 1))) n ∧ Off (FL s mv md mh mc) w w' := by
  obtain ⟨bv, hbv⟩ := h.v.there hp
  obtain ⟨b1, b2, b3, b4, -, rfl, -, rfl⟩ := al_some h.al hbv
  clear hbv
  have HR := Lib.hid h
  have HK := Lib.hid hK
  have HC := Lib.hid hc
  have CH := Lib.hid (held_has (s := s) (mv := mv) (md := some b2) (mh := mh) (mc := some b4) (t := t) (U := U) (H := H) (C := C) (n := n) K k hK true hp)
  have HV := Lib.hid (show (if false then Value.tuple #[((C k).map eN).getD (.int .i64 0), .bool (C k).isSome] else ((C k).map eN).getD (.int .i64 0)) = .int .i64 (cN C k : Int) by
    rw [if_neg (by simp), cn_get])
  have HM := Lib.hid (show n < maxLen by unfold maxLen; omega)
  obtain ⟨x, hx⟩ : ∃ x, x = cN C k := ⟨_, rfl⟩
  rw [← hx] at HV hn ⊢
  have x1 : wrap64 ((x : Int) + 1) = (x : Int) + 1 := by unfold wrap64; omega
  have c3 := h.sc.c3
  clear h hK hp hc hz hx
  go_enter Try.func15, Try.ntmps15
  go_wp2_with (first
    | (at_delete; refine wpList_drop_mo rfl (.tmp 12) (.tmp 13) rfl Try.underlying61 rfl HR.out.h rfl HK.out ?_; intro w1 hm1 ht1; have HR1 := Lib.hid (HR.out.turnH ht1 hm1 (Nat.le_refl _)); have HO1 := Lib.hid (off_to (F := FL s mv (some b2) mh (some b4)) ht1 flH); clear hm1 ht1 c3)
    | (go_at_call 38; with_reducible refine (CH.out _ HR1.out).mono ?_; rintro e w2 ⟨rfl, h2, o2⟩; have HR2 := Lib.hid h2; have HO2 := Lib.hid (Off.on HO1.out o2); clear h2 o2; have c2 := HR2.out.sc.c2)
    | (at_delete; refine wpList_drop_mo rfl (.tmp 40) (.tmp 41) rfl Try.underlying60 rfl HR2.out.d rfl HK.out ?_; intro w3 hm3 ht3; have HR3 := Lib.hid (HR2.out.turnD ht3 hm3 (Nat.le_refl _)); have HO3 := Lib.hid (Off.on HO2.out (off_to ht3 flD)); clear hm3 ht3 c2; have c4 := HR3.out.sc.c4)
    | (at_lookup; refine wpList_look_mo rfl false (.tmp 45) (.tmp 46) rfl Try.underlying60 (zI _) rfl HR3.out.c rfl HK.out _ HV.out ?_)
    | (at_mapUpdate; refine wpList_store_mo rfl (.tmp 45) (.tmp 46) (.tmp 48) rfl Try.underlying60 HM.out rfl HR3.out.c rfl HK.out (x + 1) rfl ?_; intro w4 hm4 ht4; rw [if_pos HC.out] at hm4; have HR4 := Lib.hid (HR3.out.turnC ht4 hm4 (Nat.le_refl _)); have HO4 := Lib.hid (Off.on HO3.out (off_to ht4 flC)); clear hm4 ht4 c4))
  go_ret
  exact ⟨rfl, HR4.out, HO4.out⟩
end

end Go.Proofs.Ytbcjgkedlapmhaa.LstM
namespace Go.Proofs.Ytbcjgkedlapmhaa.LstM
open Go.RowKit Kit StrT RowG BOrd ValT StoT MapF LstT RefV ValM
open Go.ChangeMaps Go.MapKept
set_option linter.unusedVariables false
set_option maxRecDepth 100000

/-- One map made, and kept in a store's part. -/
theorem mk_step {w W : World} {s i : Nat} {cs : Array Value} {v : Value} (ho : Off (fun k => k = s) w W) (hs : W.heap[s]? = some (.cells cs 63 (0, 0))) (W' : World) (hW : W' = (W.alloc (.map #[] 0)).setCell ⟨s, i, none⟩ v) :
    Off (fun k => k = s) w W' ∧ W'.heap.size = W.heap.size + 1 ∧ W'.heap[W.heap.size]? = some (.map #[] 0) ∧ W'.heap[s]? = some (.cells (cs.setIfInBounds i v) 63 (0, 0)) ∧ ∀ k o, k < W.heap.size → k ≠ s → W.heap[k]? = some o → W'.heap[k]? = some o := by
  subst hW
  have hlt : s < W.heap.size := (Array.getElem?_eq_some_iff.1 hs).1
  have h1 : Below W.heap.size W (W.alloc (.map #[] 0)) := (Below.refl _ _).alloc (Nat.le_refl _) _
  refine ⟨Off.on (Off.on ho (Off.of_below h1)) (off_cell _ _ _ rfl), by simp, ?_, ?_, fun k o hk hne h => ?_⟩
  · rw [heap_setCell_other _ _ _ _ (show W.heap.size ≠ s by omega)]
    exact heap_alloc_last W _
  · exact heap_setCell_same _ _ i _ _ _ (by rw [h1.block s hlt]; exact hs)
  · rw [heap_setCell_other _ _ _ _ hne, h1.block k hk]
    exact h
theorem sc_new {W : World} {s : Nat} {t : Int} {mv md mh mc : Option Nat} (h : SC W s t mv md mh mc) : SC (W.alloc (.map #[] 0)) s t mv md mh mc := h.same (((Below.refl _ W).alloc (Nat.le_refl _) _).block s h.lt)
theorem make_map (ty : TypeId) (W : World) : (Instr.makeMap ty none).run Try.prog W = .ok (.map (some W.heap.size)) (W.alloc (.map #[] 0)) := rfl
theorem nil_none (W : World) : (binOp .eql 59 (.map none) (.map none)).run Try.prog W = .ok (.bool true) W := by kernel_rfl
theorem nil_some (b : Nat) (W : World) : (binOp .eql 59 (.map (some b)) (.map none)).run Try.prog W = .ok (.bool false) W := by kernel_rfl
section
variable {w : World} {s : Nat} {mv md mh mc : Option Nat} {t : Int} {P : List UInt8 → Option PV} {U : List UInt8 → Option Int} {H : List UInt8 → Option Unit} {C : List UInt8 → Option Nat} {n : Nat}
theorem mo_fresh {α : Type} {enc : α → Value} {W : World} {b : Nat} {F : List UInt8 → Option α} (h : W.heap[b]? = some (.map #[] 0)) (hF : ∀ x, F x = none) (n : Nat) : MO enc W (some b) F n :=
  (show MF W b (fun x => (F x).map enc) 0 from ⟨_, ⟨#[], 0, h, ⟨by simp, stamped_empty 0, by simp⟩, Nat.le_refl _, rfl⟩, fun x => by show none = Option.map DataW.held ((F x).map enc); rw [hF]; rfl⟩).mono (Nat.zero_le _)
def OpenP (s : Nat) (mv md mh mc : Option Nat) (t : Int) (P : List UInt8 → Option PV) (U : List UInt8 → Option Int) (H : List UInt8 → Option Unit) (C : List UInt8 → Option Nat) (n : Nat) (w : World) (w' : World) : Prop := ∃ a b c d, LR w' s (some a) (some b) (some c) (some d) t P U H C n ∧ Off (FL s mv md mh mc) w w' ∧ Gr w (FL s mv md mh mc) (FL s (some a) (some b) (some c) (some d))
set_option maxHeartbeats 8000000 in
theorem open_any (h : LR w s mv md mh mc t P U H C n) : Calls Try.prog 42 #[.pointer (some ⟨s, 0, none⟩)] w fun e w' => e = .returned (.tuple #[]) ∧ OpenP s mv md mh mc t P U H C n w w' := by
  rcases id h.al with ⟨rfl, rfl, rfl, rfl⟩ | ⟨a, b, c, d, rfl, rfl, rfl, rfl, -⟩
  · have HR := Lib.hid h
    have H0 := Lib.hid h.sc
    have HO0 := Lib.hid (Off.refl (fun k => k = s) w)
    have c1 := (sc_new h.sc).c1
    have b1 := h.sc.c1
    have f1 := (sc_new h.sc).f 1
    clear h
    obtain ⟨n0, hn0⟩ : ∃ n0, n0 = w.heap.size := ⟨_, rfl⟩
    have HN0 := Lib.hid hn0
    clear hn0
    have qn := nil_none
    have qm := make_map
    go_enter Try.func42, Try.ntmps42
    go_upto_region 2 with fail
    have hm := mk_step HO0.out H0.out.hp _ (show (w.alloc (.map #[] 0)).setCell ⟨s, 1, none⟩ (.map (some w.heap.size)) = _ from rfl)
    rw [← HN0.out] at hm ⊢
    have HM1 := Lib.hid hm
    clear hm c1 b1 f1
    generalize (w.alloc (.map #[] 0)).setCell ⟨s, 1, none⟩ (.map (some n0)) = w1 at HM1 ⊢
    have H1 := Lib.hid (show SC w1 s t (some n0) none none none from SC.of HM1.out.2.2.2.1)
    have c2 := (sc_new H1.out).c2
    have f2 := (sc_new H1.out).f 2
    have HS1 := Lib.hid (show w1.heap.size = n0 + 1 by rw [HM1.out.2.1, HN0.out])
    go_upto_region 3 with fail
    have hm := mk_step HM1.out.1 H1.out.hp _ (show (w1.alloc (.map #[] 0)).setCell ⟨s, 2, none⟩ (.map (some w1.heap.size)) = _ from rfl)
    rw [HS1.out] at hm ⊢
    have HM2 := Lib.hid hm
    clear hm c2 f2
    generalize (w1.alloc (.map #[] 0)).setCell ⟨s, 2, none⟩ (.map (some (n0 + 1))) = w2 at HM2 ⊢
    have H2 := Lib.hid (show SC w2 s t (some n0) (some (n0 + 1)) none none from SC.of HM2.out.2.2.2.1)
    have c3 := (sc_new H2.out).c3
    have f3 := (sc_new H2.out).f 3
    have HS2 := Lib.hid (show w2.heap.size = n0 + 2 from HM2.out.2.1)
    go_upto_region 4 with fail
    have hm := mk_step HM2.out.1 H2.out.hp _ (show (w2.alloc (.map #[] 0)).setCell ⟨s, 3, none⟩ (.map (some w2.heap.size)) = _ from rfl)
    rw [HS2.out] at hm ⊢
    have HM3 := Lib.hid hm
    clear hm c3 f3
    generalize (w2.alloc (.map #[] 0)).setCell ⟨s, 3, none⟩ (.map (some (n0 + 2))) = w3 at HM3 ⊢
    have H3 := Lib.hid (show SC w3 s t (some n0) (some (n0 + 1)) (some (n0 + 2)) none from SC.of HM3.out.2.2.2.1)
    have c4 := (sc_new H3.out).c4
    have f4 := (sc_new H3.out).f 4
    have HS3 := Lib.hid (show w3.heap.size = n0 + 3 from HM3.out.2.1)
    go_wp2_with fail
    have hm := mk_step HM3.out.1 H3.out.hp _ (show (w3.alloc (.map #[] 0)).setCell ⟨s, 4, none⟩ (.map (some w3.heap.size)) = _ from rfl)
    rw [HS3.out] at hm ⊢
    have HM4 := Lib.hid hm
    clear hm c4 f4
    generalize (w3.alloc (.map #[] 0)).setCell ⟨s, 4, none⟩ (.map (some (n0 + 3))) = w4 at HM4 ⊢
    go_end0
    obtain ⟨o1, z1, m1, -, k1⟩ := HM1.out
    obtain ⟨o2, z2, m2, -, k2⟩ := HM2.out
    obtain ⟨o3, z3, m3, -, k3⟩ := HM3.out
    obtain ⟨o4, z4, m4, p4, k4⟩ := HM4.out
    have e1 := HS1.out
    have e2 := HS2.out
    have e3 := HS3.out
    have hs := HR.out.sc.lt
    rw [← HN0.out] at hs
    have a0 : w4.heap[n0]? = some (.map #[] 0) := k4 _ _ (by omega) (by omega) (k3 _ _ (by omega) (by omega) (k2 _ _ (by omega) (by omega) (by rw [HN0.out]; rw [HN0.out] at m1; exact m1)))
    have a1 : w4.heap[n0 + 1]? = some (.map #[] 0) := k4 _ _ (by omega) (by omega) (k3 _ _ (by omega) (by omega) m2)
    have a2 : w4.heap[n0 + 2]? = some (.map #[] 0) := k4 _ _ (by omega) (by omega) m3
    have a3 : w4.heap[n0 + 3]? = some (.map #[] 0) := m4
    refine ⟨rfl, n0, n0 + 1, n0 + 2, n0 + 3, ⟨SC.of p4, mo_fresh a0 HR.out.v n, mo_fresh a1 HR.out.d n, mo_fresh a2 HR.out.h n, mo_fresh a3 HR.out.c n, Or.inr ⟨_, _, _, _, rfl, rfl, rfl, rfl, by omega, by omega, by omega, by omega, by omega, by omega, by omega, by omega, by omega, by omega⟩⟩, ⟨o4.os, o4.tape, o4.output, o4.size, fun k hk hF => o4.block k hk (fun e => hF (Or.inl e))⟩, ?_⟩
    have hn := HN0.out
    rintro k (rfl | e | e | e | e)
    · exact Or.inl (Or.inl rfl)
    all_goals
      injection e with e
      exact Or.inr (by omega)
  · have HR := Lib.hid h
    have c1 := h.sc.c1
    clear h
    have qn := nil_some a
    go_enter Try.func42, Try.ntmps42
    go_wp2_with fail
    go_end0
    exact ⟨rfl, a, b, c, d, HR.out, Off.refl _ _, Gr.refl _ _⟩
end

end Go.Proofs.Ytbcjgkedlapmhaa.LstM
namespace Go.Proofs.Ytbcjgkedlapmhaa.LstM
open Go.RowKit Kit StrT RowG BOrd ValT StoT MapF LstT RefV ValM
set_option linter.unusedVariables false
set_option maxRecDepth 100000

section
variable {w : World} {s : Nat} {mv md mh mc : Option Nat} {t : Int} {P : List UInt8 → Option PV} {U : List UInt8 → Option Int} {H : List UInt8 → Option Unit} {C : List UInt8 → Option Nat} {n : Nat}
theorem fl_not (h : LR w s mv md mh mc t P U H C n) {g : Nat} (hg : w.heap.size ≤ g) : ¬ FL s mv md mh mc g := fun h1 => by have := h.lt g h1; omega
set_option maxHeartbeats 4000000 in
theorem put_none (K : ByteArray) (k : List UInt8) (S : ByteArray) (vl vh vz : Value) (hK : KeyIs K k) (h : LR w s mv md mh mc t P U H C n) (hp : (P k).isSome = false) :
    Calls Try.prog 19 #[.pointer (some ⟨s, 0, none⟩), .string K, .agg #[.int .u8 0, .string S, vl, vh, vz]] w fun e w' => e = .returned (.tuple #[]) ∧ LR w' s mv md mh mc t P U (updO H k none) C n ∧ Off (FL s mv md mh mc) w w' := by
  have hb0 := (Below.refl w.heap.size w).alloc (Nat.le_refl _) (.cells #[.int .u8 0, .string S, vl, vh, vz] 35)
  have HZ := Lib.hid (VCells.new w (.int .u8 0) (.string S) vl vh vz w.heap.size rfl)
  have HG := Lib.hid (fl_not h (Nat.le_refl w.heap.size))
  have HR := Lib.hid (h.keep hb0)
  have HB := Lib.hid hb0
  have HK := Lib.hid hK
  have CH := Lib.hid (held_has (s := s) (mv := mv) (md := md) (mh := mh) (mc := mc) (t := t) (U := U) (H := H) (C := C) (n := n) K k hK false hp)
  have c3 := HR.out.sc.c3
  clear h hK hp hb0
  go_enter Try.func19, Try.ntmps19
  go_upto_region 1 with fail
  generalize w.alloc (.cells #[.int .u8 0, .string S, vl, vh, vz] 35) = w0 at HZ HR HB c3 ⊢
  obtain ⟨g, hg⟩ : ∃ g, g = w.heap.size := ⟨_, rfl⟩
  rw [← hg] at HZ HG ⊢
  clear hg
  go_wp2_with (first
    | (at_delete; refine wpList_drop_mo rfl (.tmp 9) (.tmp 10) rfl Try.underlying61 rfl HR.out.h rfl HK.out ?_; intro w1 hm1 ht1; have HR1 := Lib.hid (HR.out.turnH ht1 hm1 (Nat.le_refl _)); have HO1 := Lib.hid (off_to (F := FL s mv md mh mc) ht1 flH); clear hm1 ht1 c3; have x0 := (VCells.of (show w1.heap[g]? = _ by rw [HO1.out.block g HZ.out.lt HG.out]; exact HZ.out.hp)).c0)
    | (go_at_call 38; (with_reducible refine (CH.out _ HR1.out).mono ?_); rintro e w2 ⟨rfl, h2, o2⟩; have HR2 := Lib.hid h2; have HO2 := Lib.hid (Off.on (Off.on (Off.of_below (F := FL s mv md mh mc) HB.out) HO1.out) o2); clear h2 o2))
  exact bodyPost_ret (results_none rfl _ _ _) rfl ⟨rfl, HR2.out, HO2.out⟩
set_option maxHeartbeats 4000000 in
theorem put_gone (K : ByteArray) (k : List UInt8) (S : ByteArray) (vl vh vz : Value) (hK : KeyIs K k) (h : LR w s mv md mh mc t P U H C n) (hp : (P k).isSome = true) (hc : (C k).isSome = true) (hn : cN C k ≤ 1000000000000) (hz : n ≤ 1000000) :
    Calls Try.prog 19 #[.pointer (some ⟨s, 0, none⟩), .string K, .agg #[.int .u8 0, .string S, vl, vh, vz]] w fun e w' => e = .returned (.tuple #[]) ∧ LR w' s mv md mh mc t (updO P k none) (updO U k none) (updO H k none) (updO C k (some (cN C k + 1))) n ∧ Off (FL s mv md mh mc) w w' := by
  have hb0 := (Below.refl w.heap.size w).alloc (Nat.le_refl _) (.cells #[.int .u8 0, .string S, vl, vh, vz] 35)
  have HZ := Lib.hid (VCells.new w (.int .u8 0) (.string S) vl vh vz w.heap.size rfl)
  have HG := Lib.hid (fl_not h (Nat.le_refl w.heap.size))
  have HR := Lib.hid (h.keep hb0)
  have HB := Lib.hid hb0
  have HK := Lib.hid hK
  have CH := Lib.hid (held_has (s := s) (mv := mv) (md := md) (mh := mh) (mc := mc) (t := t) (U := U) (H := H) (C := C) (n := n) K k hK true hp)
  have CD := Lib.hid (fun w h => drop_any (w := w) (s := s) (mv := mv) (md := md) (mh := mh) (mc := mc) (t := t) (P := P) (U := U) (H := updO H k none) (C := C) (n := n) K k hK h hp hc hn hz)
  have c3 := HR.out.sc.c3
  clear h hK hp hb0 hc hn hz
  go_enter Try.func19, Try.ntmps19
  go_upto_region 1 with fail
  generalize w.alloc (.cells #[.int .u8 0, .string S, vl, vh, vz] 35) = w0 at HZ HR HB c3 ⊢
  obtain ⟨g, hg⟩ : ∃ g, g = w.heap.size := ⟨_, rfl⟩
  rw [← hg] at HZ HG ⊢
  clear hg
  go_wp2_with (first
    | (at_delete; refine wpList_drop_mo rfl (.tmp 9) (.tmp 10) rfl Try.underlying61 rfl HR.out.h rfl HK.out ?_; intro w1 hm1 ht1; have HR1 := Lib.hid (HR.out.turnH ht1 hm1 (Nat.le_refl _)); have HO1 := Lib.hid (off_to (F := FL s mv md mh mc) ht1 flH); clear hm1 ht1 c3; have x0 := (VCells.of (show w1.heap[g]? = _ by rw [HO1.out.block g HZ.out.lt HG.out]; exact HZ.out.hp)).c0)
    | (go_at_call 38; (with_reducible refine (CH.out _ HR1.out).mono ?_); rintro e w2 ⟨rfl, h2, o2⟩; have HR2 := Lib.hid h2; have HO2 := Lib.hid (Off.on (Off.on (Off.of_below (F := FL s mv md mh mc) HB.out) HO1.out) o2); clear h2 o2)
    | (go_at_call 39; (with_reducible refine (CD.out _ HR2.out).mono ?_); rintro e w3 ⟨rfl, h3, o3⟩; have HR3 := Lib.hid h3; have HO3 := Lib.hid (Off.on HO2.out o3); clear h3 o3))
  exact bodyPost_ret (results_none rfl _ _ _) rfl ⟨rfl, HR3.out, HO3.out⟩
theorem pv_turn {w w' : World} {m : Option Nat} {p : PV} (h : p.In w) (ht : TO w w' m) (hm : ∀ j, p.at_ j → m ≠ some j) : p.In w' := h.same (Nat.le_of_eq ht.size.symm) (fun j hj => ht.other j (hm j hj))
/-- The world in which a value is put: the store, and the value in its box. -/
structure PW (w2 W : World) (s : Nat) (a b c d : Nat) (t : Int) (P : List UInt8 → Option PV) (U : List UInt8 → Option Int) (H : List UInt8 → Option Unit) (C : List UInt8 → Option Nat) (n g : Nat) (p : PV) : Prop where
  r : LR W s (some a) (some b) (some c) (some d) t P U H C n
  z : VCells W g (.int .u8 p.k) (.string p.S) (.slice p.ql p.nl p.cl) (.slice p.qh p.nh p.ch) (.slice p.qz p.nz p.cz)
  i : p.In W
  b : Below w2.heap.size w2 W
theorem PW.keep {w2 W W' : World} {a b c d g : Nat} {p : PV} (h : PW w2 W s a b c d t P U H C n g p) (hb : Below W.heap.size W W') : PW w2 W' s a b c d t P U H C n g p :=
  ⟨h.r.keep hb, h.z.keep hb, VIn.keep h.i hb, h.b.trans (hb.mono h.b.size)⟩
theorem PW.tell {w2 W : World} {a b c d g : Nat} {p : PV} (h : PW w2 W s a b c d t P U H C n g p) : W.cell? ⟨s, 1, none⟩ = some (.map (some a)) ∧ W.cell? ⟨g, 0, none⟩ = some (.int .u8 p.k) ∧ W.cell? ⟨g, 1, none⟩ = some (.string p.S) ∧ W.cell? ⟨g, 2, none⟩ = some (.slice p.ql p.nl p.cl) ∧ W.cell? ⟨g, 3, none⟩ = some (.slice p.qh p.nh p.ch) ∧ W.cell? ⟨g, 4, none⟩ = some (.slice p.qz p.nz p.cz) :=
  ⟨h.r.sc.c1, h.z.c0, h.z.c1, h.z.c2, h.z.c3, h.z.c4⟩
def PutP (s : Nat) (mv md mh mc : Option Nat) (t : Int) (P : List UInt8 → Option PV) (U : List UInt8 → Option Int) (H : List UInt8 → Option Unit) (C : List UInt8 → Option Nat) (n : Nat) (k : List UInt8) (p : PV) (w : World) (w' : World) : Prop := ∃ a b c d, ∃ p' : PV, LR w' s (some a) (some b) (some c) (some d) t (updO P k (some p')) U (updO H k none) (updO C k (some (cN C k + 1))) (n + 2) ∧ p'.In w' ∧ p'.d = p.d ∧ (∀ j, p'.at_ j → w.heap.size ≤ j ∧ j < w'.heap.size ∧ ¬ FL s (some a) (some b) (some c) (some d) j) ∧ Off (FL s mv md mh mc) w w' ∧ Gr w (FL s mv md mh mc) (FL s (some a) (some b) (some c) (some d))
set_option maxHeartbeats 8000000 in
theorem put_some (K : ByteArray) (k : List UInt8) (p : PV) (hK : KeyIs K k) (h : LR w s mv md mh mc t P U H C n) (hi : p.In w) (hr : ∀ j, p.at_ j → j < w.heap.size ∧ ¬ FL s mv md mh mc j) (hk : (p.k == 0) = false) (hn : cN C k ≤ 1000000000000) (hz : n ≤ 1000000) :
    Calls Try.prog 19 #[.pointer (some ⟨s, 0, none⟩), .string K, p.agg] w fun e w' => e = .returned (.tuple #[]) ∧ PutP s mv md mh mc t P U H C n k p w w' := by
  unfold PV.agg
  have hb0 := (Below.refl w.heap.size w).alloc (Nat.le_refl _) (.cells #[.int .u8 p.k, .string p.S, .slice p.ql p.nl p.cl, .slice p.qh p.nh p.ch, .slice p.qz p.nz p.cz] 35)
  have HZ := Lib.hid (VCells.new w (.int .u8 p.k) (.string p.S) (.slice p.ql p.nl p.cl) (.slice p.qh p.nh p.ch) (.slice p.qz p.nz p.cz) w.heap.size rfl)
  have HG := Lib.hid (fl_not h (Nat.le_refl w.heap.size))
  have HR := Lib.hid (h.keep hb0)
  have HB := Lib.hid hb0
  have HK := Lib.hid hK
  have HI := Lib.hid hi
  have HQ := Lib.hid hr
  have HSz := Lib.hid (pv_sizes hi)
  have HV := Lib.hid (show (if false then Value.tuple #[((C k).map eN).getD (.int .i64 0), .bool (C k).isSome] else ((C k).map eN).getD (.int .i64 0)) = .int .i64 (cN C k : Int) by
    rw [if_neg (by simp), cn_get])
  have HM := Lib.hid (show n < maxLen ∧ n + 1 < maxLen by unfold maxLen; omega)
  obtain ⟨x, hx⟩ : ∃ x, x = cN C k := ⟨_, rfl⟩
  have HX := Lib.hid hx
  rw [← hx] at HV hn
  have x1 : wrap64 ((x : Int) + 1) = (x : Int) + 1 := by unfold wrap64; omega
  have c3 := HR.out.sc.c3
  clear h hK hb0 hi hr hz hx
  go_enter Try.func19, Try.ntmps19
  go_upto_region 1 with fail
  generalize w.alloc (.cells #[.int .u8 p.k, .string p.S, .slice p.ql p.nl p.cl, .slice p.qh p.nh p.ch, .slice p.qz p.nz p.cz] 35) = w0 at HZ HR HB c3 ⊢
  obtain ⟨g, hg⟩ : ∃ g, g = w.heap.size := ⟨_, rfl⟩
  rw [← hg] at HZ HG ⊢
  have HGs := Lib.hid hg
  clear hg
  go_upto_region 6 with (first
    | (at_delete; refine wpList_drop_mo rfl (.tmp 9) (.tmp 10) rfl Try.underlying61 rfl HR.out.h rfl HK.out ?_; intro w1 hm1 ht1; have HR1 := Lib.hid (HR.out.turnH ht1 hm1 (Nat.le_refl _)); have HO1 := Lib.hid (off_to (F := FL s mv md mh mc) ht1 flH); clear hm1 ht1 c3; have HZ1 := Lib.hid (VCells.of (show w1.heap[g]? = _ by rw [HO1.out.block g HZ.out.lt HG.out]; exact HZ.out.hp)); have x0 := HZ1.out.c0; have CO := Lib.hid (open_any HR1.out))
    | (go_at_call 42; (with_reducible refine CO.out.mono ?_); rintro e w2 ⟨rfl, a, b, c, d, h2, o2, g2⟩; have HR2 := Lib.hid h2; have HO2 := Lib.hid o2; have HG2 := Lib.hid g2; clear h2 o2 g2 x0))
  have HW := Lib.hid (show w.heap.size ≤ w2.heap.size ∧ w.heap.size ≤ w1.heap.size from ⟨Nat.le_trans HB.out.size (Nat.le_trans HO1.out.size HO2.out.size), Nat.le_trans HB.out.size HO1.out.size⟩)
  have HI2 := Lib.hid (show p.In w2 from HI.out.same HW.out.1 (fun j hj => by
    have h1 := HQ.out j hj
    have h2 : j < w0.heap.size := Nat.lt_of_lt_of_le h1.1 HB.out.size
    rw [HO2.out.block j (Nat.lt_of_lt_of_le h2 HO1.out.size) h1.2, HO1.out.block j h2 h1.2, HB.out.block j h1.1]))
  have HZ2 := Lib.hid (VCells.of (show w2.heap[g]? = _ by rw [HO2.out.block g HZ1.out.lt HG.out]; exact HZ1.out.hp))
  have HP2 := Lib.hid (show PW w2 w2 s a b c d t P U (updO H k none) C n g p from ⟨HR2.out, HZ2.out, HI2.out, Below.refl _ _⟩)
  have HO := Lib.hid (Off.on (Off.on (Off.of_below (F := FL s mv md mh mc) HB.out) HO1.out) HO2.out)
  have CV := Lib.hid (fun W (hs : Hid (PW w2 W s a b c d t P U (updO H k none) C n g p)) => (own_any p.k p.S p.ql p.nl p.cl p.qh p.nh p.ch p.qz p.nz p.cz p.d W hs.out.i).mono (R' := fun e w' => ∃ p' : PV, e = .returned p'.agg ∧ Hid (p'.In w') ∧ Hid (p'.d = p.d) ∧ Hid (∀ j, p'.at_ j → W.heap.size ≤ j ∧ j < w'.heap.size) ∧ Hid (Below W.heap.size W w') ∧ Hid (PW w2 W s a b c d t P U (updO H k none) C n g p) ∧ Hid (PW w2 w' s a b c d t P U (updO H k none) C n g p)) fun e w' h => by
    obtain ⟨p', h1, h2, h3, h4, h5⟩ := pv_own h HSz.out.1 HSz.out.2.1 HSz.out.2.2.1 HSz.out.2.2.2
    exact ⟨p', h1, h2, h3, h4, h5, hs, hs.out.keep h5⟩)
  have s2 : Hid (PW w2 w2.drew s a b c d t P U (updO H k none) C n g p) := Lib.hid (HP2.out.keep (Below.refl _ _).drew)
  clear HZ HZ1 HZ2 HI HI2 CO
  obtain ⟨u1, u2, u3, u4, u5, u6⟩ := HP2.out.tell
  go_region_with (first
    | (go_at_call 35; (with_reducible refine (CV.out _ (by assumption)).mono ?_); rintro e w3 ⟨p', rfl, HPi, HPd, HPa, HPb, HPw, HPn⟩; obtain ⟨e1, e2, e3, e4, e5, e6⟩ := HPn.out.tell; obtain ⟨w4, hrun, hm4, ht4⟩ := MO.store (enc := PV.agg) HPn.out.r.v Try.underlying59 HM.out.1 HK.out p'; have HM4 := Lib.hid hm4; have HT4 := Lib.hid ht4; clear hm4 ht4))
  all_goals
    clear u1 u2 u3 u4 u5 u6 e1 e2 e3 e4 e5 e6 hrun s2 CV
    have HN := Lib.hid (show ∀ j, p'.at_ j → ¬ FL s (some a) (some b) (some c) (some d) j from fun j hj h => by
      have h1 := (HPa.out j hj).1
      have h2 := HR2.out.lt j h
      have h3 : w2.drew.heap.size = w2.heap.size := rfl
      omega)
    have HGr := Lib.hid (show Gr w (FL s mv md mh mc) (FL s (some a) (some b) (some c) (some d)) from fun k hk => (HG2.out k hk).imp id (fun h => Nat.le_trans HW.out.2 h))
    have HR4 := Lib.hid (HPn.out.r.turnV HT4.out (HM4.out.mono (k := n + 1) (by split <;> omega)) (Nat.le_succ n))
    have HO4 := Lib.hid ((Off.on HO.out (Off.of_below (F := FL s mv md mh mc) HPn.out.b)).trans (off_to (F := FL s (some a) (some b) (some c) (some d)) HT4.out flV) HGr.out)
    have HI4 := Lib.hid (pv_turn HPi.out HT4.out (fun j hj e => HN.out j hj (Or.inr (Or.inl e))))
    have HS4 := Lib.hid HT4.out.size
    have c4 := HR4.out.sc.c4
    go_wp2_with (first
      | (at_lookup; refine wpList_look_mo rfl false (.tmp 32) (.tmp 33) rfl Try.underlying60 (zI _) rfl HR4.out.c rfl HK.out _ HV.out ?_)
      | (at_mapUpdate; refine wpList_store_mo rfl (.tmp 32) (.tmp 33) (.tmp 35) rfl Try.underlying60 HM.out.2 rfl HR4.out.c rfl HK.out (x + 1) rfl ?_; intro w5 hm5 ht5; have HR5 := Lib.hid (HR4.out.turnC ht5 (hm5.mono (k := n + 2) (by split <;> omega)) (Nat.le_succ _)); have HO5 := Lib.hid (HO4.out.trans (off_to (F := FL s (some a) (some b) (some c) (some d)) ht5 flC) HGr.out); have HI5 := Lib.hid (pv_turn HI4.out ht5 (fun j hj e => HN.out j hj (Or.inr (Or.inr (Or.inr (Or.inr e)))))); have HS5 := Lib.hid ht5.size; clear hm5 ht5 c4))
    go_end0
    exact ⟨rfl, a, b, c, d, p', by rw [← HX.out]; exact HR5.out, HI5.out, HPd.out, fun j hj => ⟨Nat.le_trans HW.out.1 (HPa.out j hj).1, by rw [HS5.out, HS4.out]; exact (HPa.out j hj).2, HN.out j hj⟩, HO5.out, HGr.out⟩
end

end Go.Proofs.Ytbcjgkedlapmhaa.LstM
namespace Go.Proofs.Ytbcjgkedlapmhaa.LstM
open Go.RowKit Kit StrT RowG BOrd ValT StoT MapF LstT RefV ValM
set_option linter.unusedVariables false
set_option maxRecDepth 100000

section
variable {w : World} {s : Nat} {mv md mh mc : Option Nat} {t : Int} {P : List UInt8 → Option PV} {U : List UInt8 → Option Int} {H : List UInt8 → Option Unit} {C : List UInt8 → Option Nat} {n : Nat}
set_option maxHeartbeats 4000000 in
theorem purge_any (h : LR w s mv md mh mc t P U H C n) (Ks : List (List UInt8)) (hn : Ks.Nodup) (hk : ∀ x, x ∈ Ks ↔ (H x).isSome = true) :
    Calls Try.prog 21 #[.pointer (some ⟨s, 0, none⟩)] w fun e w' => e = .returned (.int .i64 (Ks.length : Int)) ∧ LR w' s mv md mh mc t P U (fun _ => none) C n ∧ Off (FL s mv md mh mc) w w' := by
  have HR := Lib.hid h
  have HN := Lib.hid hn
  have HK := Lib.hid hk
  have c3 := h.sc.c3
  clear h hn hk
  go_enter Try.func21, Try.ntmps21
  go_wp2_with (first
    | (at_len; refine wpList_len_mo rfl (.tmp 7) rfl Try.underlying61 rfl HR.out.h Ks HN.out HK.out ?_)
    | (refine wpList_clear_mo rfl (.tmp 12) rfl Try.underlying61 rfl HR.out.h ?_; intro w1 hm1 ht1; have HR1 := Lib.hid (HR.out.turnH ht1 hm1 (Nat.le_refl _)); have HO1 := Lib.hid (off_to (F := FL s mv md mh mc) ht1 flH); clear hm1 ht1 c3))
  go_ret
  exact ⟨rfl, HR1.out, HO1.out⟩
theorem held_S (h : LR w s mv md mh mc t P U H C n) (Kv Kh : List (List UInt8)) (hv : Kv.Nodup) (hvk : ∀ x, x ∈ Kv ↔ (P x).isSome = true) (hh : Kh.Nodup) (hhk : ∀ x, x ∈ Kh ↔ (H x).isSome = true) :
    w.cell? ⟨s, 1, none⟩ = some (.map mv) ∧ w.cell? ⟨s, 3, none⟩ = some (.map mh) ∧ (∀ ty, (Builtin.len_ #[59] ty #[.map mv]).run Try.prog w = .ok (.int .i64 (Kv.length : Int)) w) ∧ ∀ ty, (Builtin.len_ #[61] ty #[.map mh]).run Try.prog w = .ok (.int .i64 (Kh.length : Int)) w :=
  ⟨h.sc.c1, h.sc.c3, fun ty => h.v.len Try.underlying59 Kv hv hvk ty, fun ty => h.h.len Try.underlying61 Kh hh hhk ty⟩
set_option maxHeartbeats 4000000 in
theorem heldn_any (h : LR w s mv md mh mc t P U H C n) (Kv Kh : List (List UInt8)) (hv : Kv.Nodup) (hvk : ∀ x, x ∈ Kv ↔ (P x).isSome = true) (hh : Kh.Nodup) (hhk : ∀ x, x ∈ Kh ↔ (H x).isSome = true) (l1 : Kv.length ≤ 1000000) (l2 : Kh.length ≤ 1000000) :
    Calls Try.prog 29 #[.pointer (some ⟨s, 0, none⟩)] w fun e w' => e = .returned (.int .i64 ((Kv.length + Kh.length : Nat) : Int)) ∧ LR w' s mv md mh mc t P U H C n ∧ Off (FL s mv md mh mc) w w' := by
  have HR := Lib.hid (h.keep ((Below.refl w.heap.size w).drew))
  have HB := Lib.hid ((Below.refl w.heap.size w).drew)
  obtain ⟨a, ha⟩ : ∃ a, a = Kv.length := ⟨_, rfl⟩
  obtain ⟨b, hb⟩ : ∃ b, b = Kh.length := ⟨_, rfl⟩
  have HT := Lib.hid (fun W (hW : LR W s mv md mh mc t P U H C n) => held_S hW Kv Kh hv hvk hh hhk)
  rw [← ha, ← hb] at HT ⊢
  rw [← ha] at l1
  rw [← hb] at l2
  clear h hv hvk hh hhk ha hb
  have s2 : Hid (LR w.drew s mv md mh mc t P U H C n) := HR
  go_enter Try.func29, Try.ntmps29
  go_wp2_with fail
  go_region_held (fun W => Hid (LR W s mv md mh mc t P U H C n) ∧ W.cell? ⟨s, 1, none⟩ = some (.map mv) ∧ W.cell? ⟨s, 3, none⟩ = some (.map mh) ∧ (∀ ty, (Builtin.len_ #[59] ty #[.map mv]).run Try.prog W = .ok (.int .i64 (a : Int)) W) ∧ ∀ ty, (Builtin.len_ #[61] ty #[.map mh]).run Try.prog W = .ok (.int .i64 (b : Int)) W) (first | exact ⟨by assumption, HT.out _ (Hid.out (by assumption))⟩) (fail)
  rename_i hheld
  clear hheld
  go_wp2_with fail
  go_ret
  exact ⟨ret_int (by rw [IntKind.wrap_i64, Int.natCast_add]; omega), HR.out, Off.of_below HB.out⟩
end

end Go.Proofs.Ytbcjgkedlapmhaa.LstM
namespace Go.Proofs.Ytbcjgkedlapmhaa.LstM
open Go.RowKit Kit StrT RowG BOrd ValT StoT MapF LstT RefV
open Go.ChangeMaps Go.MapKept
set_option linter.unusedVariables false
set_option maxRecDepth 100000

/-- A map of numbers that is being gone through. -/
def Rg (w : World) (b r n : Nat) (U : List UInt8 → Option Int) (left : Lit → Bool) (cnt : Nat) : Prop := ∃ D, w.ranges Try.prog 9 anyV b r n D left cnt ∧ ∀ x, lk D x = ((U x).map eI).map DataW.held
theorem Rg.mo {w : World} {b r n cnt : Nat} {U : List UInt8 → Option Int} {left : Lit → Bool} (h : Rg w b r n U left cnt) : MO eI w (some b) U n := by
  obtain ⟨D, h1, h2⟩ := h
  exact ⟨D, h1.owns, h2⟩
theorem Rg.kept {w w' : World} {b r n cnt : Nat} {U : List UInt8 → Option Int} {left : Lit → Bool} {a : Nat} (h : Rg w b r n U left cnt) (ht : w.mapTurned w' a) (hb : b ≠ a) (hr : r ≠ a) : Rg w' b r n U left cnt := by
  obtain ⟨D, h1, h2⟩ := h
  exact ⟨D, h1.kept ht.grown (fun e => hb (by injection e)) (fun e => hr (by injection e)), h2⟩
theorem Rg.keep {w w' : World} {b r n cnt : Nat} {U : List UInt8 → Option Int} {left : Lit → Bool} (h : Rg w b r n U left cnt) (hb : Below w.heap.size w w') : Rg w' b r n U left cnt := by
  obtain ⟨D, h1, h2⟩ := h
  exact ⟨D, h1.kept (row := none) ⟨hb.os, hb.tape, hb.output, hb.size, fun i hi _ => hb.block i hi⟩ (by simp) (by simp), h2⟩
theorem str_inv (key : Value) (kl : Lit) (h : keyOf Try.prog 9 key = some kl) : ∃ K : ByteArray, key = .string K ∧ kl = .string K.data.toList ∧ K.size ≤ maxLen := by
  rw [keyOf_string Try.underlying9] at h
  unfold mapKey at h
  rw [Try.underlying9] at h
  cases key <;> simp at h
  exact ⟨_, rfl, h.2.symm, h.1⟩
/-- A step. -/
theorem Rg.next {w : World} {b r n cnt : Nat} {U : List UInt8 → Option Int} {left : Lit → Bool} (h : Rg w b r n U left cnt) (ty : TypeId) :
    (cnt = 0 ∧ (∀ kl, left kl = false) ∧ (Instr.next (.pointer (some ⟨r, 0, none⟩)) false ty).run Try.prog w = .ok (.tuple #[.bool false]) w) ∨
    ∃ (K : ByteArray) (k : List UInt8) (a : Int) (w' : World) (cnt' : Nat), KeyIs K k ∧ left (.string k) = true ∧ U k = some a ∧ (Instr.next (.pointer (some ⟨r, 0, none⟩)) false ty).run Try.prog w = .ok (.tuple #[.bool true, .string K, .int .i64 a]) w' ∧
      Rg w' b r n U (fun x => left x && !x.sameKey (.string k)) cnt' ∧ cnt' < cnt ∧ w.grownBy w' (some r) ∧ w'.heap.size = w.heap.size ∧ (Instr.entry (.pointer (some ⟨r, 0, none⟩))).run Try.prog w' = .ok (.tuple #[.string K, .int .i64 a]) w' := by
  obtain ⟨D, h1, h2⟩ := h
  rcases h1.next law ty with h3 | ⟨key, v, kl, y, w', cnt', hkey, hl, hv, hat, hrun, hrg, hc, hg, hs, he⟩
  · exact Or.inl h3
  · right
    obtain ⟨K, rfl, rfl, hK⟩ := str_inv key kl hkey
    have hy : y = (.held v, []) := (Option.some.inj hv).symm
    have h4 : lk D K.data.toList = some (.held v) := by
      cases h5 : lk D K.data.toList with
      | none =>
        have h6 := hat (.lit (.bool true))
        rw [lk_at, h5, hy] at h6
        cases h6
      | some d =>
        have h6 := hat (.lit (.bool true))
        rw [lk_at, h5, hy] at h6
        exact congrArg some h6
    rw [h2] at h4
    cases hU : U K.data.toList with
    | none => rw [hU] at h4; cases h4
    | some a =>
      rw [hU] at h4
      have h5 : eI a = v := by
        have := Option.some.inj h4
        injection this
      subst h5
      exact ⟨K, _, a, w', cnt', keyIs rfl hK, hl, hU, hrun, ⟨D, hrg, h2⟩, hc, hg, hs, he⟩
section
variable {w : World} {s : Nat} {t : Int} {P : List UInt8 → Option PV} {U : List UInt8 → Option Int} {H : List UInt8 → Option Unit} {C : List UInt8 → Option Nat} {n a b c d r cnt : Nat} {left : Lit → Bool}
section
variable {ops : Array Oper} {rest : List Oper} {o : Oper} {ac : Act} {Q : Exit → Act → World → Prop} {ty e : TypeId}
theorem wpList_delete_rg (hg : o.guard = none) (x y : Operand) (hop : o.op = Op.call { callee := Callee.builtin Builtin.delete, args := #[x, y], argTypes := #[ty, 9] }) (ht : Try.prog.underlying ty = some (.map 9 e))
    (hm : ac.eval x = .map (some b)) (h : Rg w b r n U left cnt) {K : ByteArray} {k : List UInt8} (hx : ac.eval y = .string K) (hK : KeyIs K k)
    (hr : ∀ w' cnt', Rg w' b r n (updO U k none) (fun x => left x && !x.sameKey (.string k)) cnt' → cnt' ≤ cnt → TO w w' (some b) → wpList Try.prog ops Q rest (ac.put o.dst (.tuple #[])) w') : wpList Try.prog ops Q (o :: rest) ac w := by
  obtain ⟨D, h1, h2⟩ := h
  exact wpList_delete_ranges w hg x y ty 9 hop e law ht anyV b r n D left cnt hm h1 (.string K) (.string k) hx (key_of hK.eq hK.sz) (fun w' cnt' a b c => hr w' cnt' ⟨_, a, fun x => by
    rw [lk_del]
    unfold updO
    split
    · rfl
    · exact h2 x⟩ b c)
end
set_option maxHeartbeats 4000000 in
theorem drop_rg (K : ByteArray) (k : List UInt8) (hK : KeyIs K k) (h : LR w s (some a) (some b) (some c) (some d) t P U H C n) (hrg : Rg w b r n U left cnt) (hr : ¬ FL s (some a) (some b) (some c) (some d) r) (hc : (C k).isSome = true) (hn : cN C k ≤ 1000000000000) (hz : n ≤ 1000000) :
    Calls Try.prog 39 #[.pointer (some ⟨s, 0, none⟩), .string K] w fun e w' => e = .returned (.tuple #[]) ∧ LR w' s (some a) (some b) (some c) (some d) t (updO P k none) (updO U k none) H (updO C k (some (cN C k + 1))) n ∧ (∃ cnt', cnt' ≤ cnt ∧ Rg w' b r n (updO U k none) (fun x => left x && !x.sameKey (.string k)) cnt') ∧ Off (FL s (some a) (some b) (some c) (some d)) w w' := by
  have HR := Lib.hid h
  have HG := Lib.hid hrg
  have HK := Lib.hid hK
  have HC := Lib.hid hc
  have HV := Lib.hid (show (if false then Value.tuple #[((C k).map eN).getD (.int .i64 0), .bool (C k).isSome] else ((C k).map eN).getD (.int .i64 0)) = .int .i64 (cN C k : Int) by
    rw [if_neg (by simp), cn_get])
  have HM := Lib.hid (show n < maxLen by unfold maxLen; omega)
  have HNe := Lib.hid (show b ≠ a ∧ b ≠ d ∧ r ≠ a ∧ r ≠ d from by
    have h1 := al_ne h.al
    refine ⟨fun e => (h1.2.1 a rfl).1 (by rw [e]), fun e => (h1.2.2.1 b rfl).2.2 (by rw [e]), fun e => hr (Or.inr (Or.inl (by rw [e]))), fun e => hr (Or.inr (Or.inr (Or.inr (Or.inr (by rw [e])))))⟩)
  obtain ⟨x, hx⟩ : ∃ x, x = cN C k := ⟨_, rfl⟩
  rw [← hx] at HV hn ⊢
  have x1 : wrap64 ((x : Int) + 1) = (x : Int) + 1 := by unfold wrap64; omega
  have c1 := h.sc.c1
  clear h hK hx hc hz hrg hr
  go_enter Try.func39, Try.ntmps39
  go_wp2_with (first
    | (at_delete; refine wpList_drop_mo rfl (.tmp 7) (.tmp 8) rfl Try.underlying59 rfl HR.out.v rfl HK.out ?_; intro w1 hm1 ht1; have HR1 := Lib.hid (HR.out.turnV ht1 hm1 (Nat.le_refl _)); have HO1 := Lib.hid (off_to (F := FL s (some a) (some b) (some c) (some d)) ht1 flV); have HG1 := Lib.hid (HG.out.kept ht1 HNe.out.1 HNe.out.2.2.1); clear hm1 ht1 c1; have c2 := HR1.out.sc.c2)
    | (at_delete; refine wpList_delete_rg rfl (.tmp 12) (.tmp 13) rfl Try.underlying60 rfl HG1.out rfl HK.out ?_; intro w2 cnt2 hrg2 hle2 ht2; have HG2 := Lib.hid hrg2; have HL2 := Lib.hid hle2; have HR2 := Lib.hid (HR1.out.turnD ht2 hrg2.mo (Nat.le_refl _)); have HO2 := Lib.hid (Off.on HO1.out (off_to ht2 flD)); clear hrg2 hle2 ht2 c2; have c4 := HR2.out.sc.c4)
    | (at_lookup; refine wpList_look_mo rfl false (.tmp 17) (.tmp 18) rfl Try.underlying60 (zI _) rfl HR2.out.c rfl HK.out _ HV.out ?_)
    | (at_mapUpdate; refine wpList_store_mo rfl (.tmp 17) (.tmp 18) (.tmp 20) rfl Try.underlying60 HM.out rfl HR2.out.c rfl HK.out (x + 1) rfl ?_; intro w3 hm3 ht3; rw [if_pos HC.out] at hm3; have HR3 := Lib.hid (HR2.out.turnC ht3 hm3 (Nat.le_refl _)); have HO3 := Lib.hid (Off.on HO2.out (off_to ht3 flC)); have HG3 := Lib.hid (HG2.out.kept ht3 HNe.out.2.1 HNe.out.2.2.2); clear hm3 ht3 c4))
  go_end0
  exact ⟨rfl, HR3.out, ⟨cnt2, HL2.out, HG3.out⟩, HO3.out⟩
end

end Go.Proofs.Ytbcjgkedlapmhaa.LstM
namespace Go.Proofs.Ytbcjgkedlapmhaa.LstM
open Go.RowKit Kit StrT RowG BOrd ValT StoT MapF LstT RefV
open Go.ChangeMaps Go.MapKept
set_option linter.unusedVariables false
set_option maxRecDepth 100000

/-- Whether a key's deadline is past. -/
def flU (T : Int) (U : List UInt8 → Option Int) (x : List UInt8) : Bool := match U x with | some a => decide (a ≤ T) | none => false
/-- .. and it has been gone by. -/
def cdU (T : Int) (U : List UInt8 → Option Int) (left : Lit → Bool) (x : List UInt8) : Bool := flU T U x && !left (.string x)
def fP (q : List UInt8 → Bool) (P : List UInt8 → Option PV) : List UInt8 → Option PV := fun x => if q x then none else P x
def fU (q : List UInt8 → Bool) (U : List UInt8 → Option Int) : List UInt8 → Option Int := fun x => if q x then none else U x
def fH (q : List UInt8 → Bool) (H : List UInt8 → Option Unit) : List UInt8 → Option Unit := fun x => if q x then some () else H x
def fC (q : List UInt8 → Bool) (C : List UInt8 → Option Nat) : List UInt8 → Option Nat := fun x => if q x then some (cN C x + 1) else C x
section
variable {T : Int} {P : List UInt8 → Option PV} {U : List UInt8 → Option Int} {H : List UInt8 → Option Unit} {C : List UInt8 → Option Nat} {left : Lit → Bool} {k : List UInt8} {a : Int}
theorem cd_open (hl : left (.string k) = true) : cdU T U left k = false := by
  unfold cdU
  rw [hl]
  simp
theorem cd_fall (hU : U k = some a) (ha : a ≤ T) (x : List UInt8) : cdU T U (fun y => left y && !y.sameKey (.string k)) x = if x = k then true else cdU T U left x := by
  simp only [cdU, flU, same_str]
  by_cases h : x = k
  · subst h
    simp [hU, ha]
  · simp [h]
theorem cd_stay (hU : U k = some a) (ha : ¬ a ≤ T) (x : List UInt8) : cdU T U (fun y => left y && !y.sameKey (.string k)) x = cdU T U left x := by
  simp only [cdU, flU, same_str]
  by_cases h : x = k
  · subst h
    simp [hU, ha]
  · simp [h]
end
theorem below_grown {w w' : World} (h : w.grownBy w' none) : Below w.heap.size w w' := ⟨h.os, h.tape, h.output, h.size, fun k hk => h.block k hk (by simp)⟩
theorem rg_congr {w : World} {b r n cnt : Nat} {U U' : List UInt8 → Option Int} {left : Lit → Bool} (h : Rg w b r n U left cnt) (hu : ∀ x, U x = U' x) : Rg w b r n U' left cnt := by
  obtain ⟨D, h1, h2⟩ := h
  exact ⟨D, h1, fun x => by rw [h2, hu]⟩
section
variable {w : World} {ops : Array Oper} {rest : List Oper} {o : Oper} {ac : Act} {Q : Exit → Act → World → Prop} {ty e : TypeId} {b n r cnt : Nat} {U : List UInt8 → Option Int} {left : Lit → Bool}
theorem wpList_range_rg (hg : o.guard = none) (m : Operand) (hop : o.op = Op.range ty m) (ht : Try.prog.underlying ty = some (.map 9 e)) (hm : ac.eval m = .map (some b)) (h : MO eI w (some b) U n)
    (hK : ∀ w' left cnt, Rg w' b w.heap.size n U left cnt → (∀ x, (U x).isSome = true → left (.string x) = true) → Below w.heap.size w w' → w'.heap.size = w.heap.size + 1 → wpList Try.prog ops Q rest (ac.put o.dst (.pointer (some ⟨w.heap.size, 0, none⟩))) w') : wpList Try.prog ops Q (o :: rest) ac w := by
  obtain ⟨D, h1, h2⟩ := h
  exact wpList_range_own w hg m ty hop 9 e law ht anyV b n D hm h1 (fun w' hrg hgr hsz => hK w' _ _ ⟨D, hrg, h2⟩ (fun x hx => by rw [lk_has, h2, Option.isSome_map, Option.isSome_map]; exact hx) (below_grown hgr) hsz)
theorem wpList_next_rg (hg : o.guard = none) (it : Operand) (hop : o.op = Op.next it false) (hit : ac.eval it = .pointer (some ⟨r, 0, none⟩)) (h : Rg w b r n U left cnt)
    (hDone : cnt = 0 → (∀ kl, left kl = false) → wpList Try.prog ops Q rest (ac.put o.dst (.tuple #[.bool false])) w)
    (hMore : ∀ (K : ByteArray) (k : List UInt8) (a : Int) (w' : World) (cnt' : Nat), KeyIs K k → left (.string k) = true → U k = some a → Rg w' b r n U (fun x => left x && !x.sameKey (.string k)) cnt' → cnt' < cnt → w.grownBy w' (some r) → w'.heap.size = w.heap.size →
      (Instr.entry (.pointer (some ⟨r, 0, none⟩))).run Try.prog w' = .ok (.tuple #[.string K, .int .i64 a]) w' → wpList Try.prog ops Q rest (ac.put o.dst (.tuple #[.bool true, .string K, .int .i64 a])) w') : wpList Try.prog ops Q (o :: rest) ac w := by
  refine wpList_plain hg fun K' hK' => ?_
  unfold Oper.wp
  rcases h.next o.type with ⟨h0, hl, hrun⟩ | ⟨K, k, a, w', cnt', hK, hlk, hU, hrun, hrg, hlt, hgr, hsz, hen⟩
  · simp [execOp, hop, hit, hrun, Result.andThen]
    exact hK' _ _ (hDone h0 hl)
  · simp [execOp, hop, hit, hrun, Result.andThen]
    exact hK' _ _ (hMore K k a w' cnt' hK hlk hU hrg hlt hgr hsz hen)
end
/-- The world on the way. -/
structure TR (w wr : World) (s a b c d r : Nat) (T : Int) (P : List UInt8 → Option PV) (U : List UInt8 → Option Int) (H : List UInt8 → Option Unit) (C : List UInt8 → Option Nat) (n : Nat) (left : Lit → Bool) (cnt : Nat) : Prop where
  lr : LR wr s (some a) (some b) (some c) (some d) T (fP (cdU T U left) P) (fU (cdU T U left) U) (fH (cdU T U left) H) (fC (cdU T U left) C) n
  rg : Rg wr b r n (fU (cdU T U left) U) left cnt
  of : Off (FL s (some a) (some b) (some c) (some d)) w wr
theorem fc_at {q : List UInt8 → Bool} {C : List UInt8 → Option Nat} {k : List UInt8} (h : q k = false) : fC q C k = C k := by
  unfold fC
  rw [h]
  rfl
theorem cd_end {T : Int} {U : List UInt8 → Option Int} {left : Lit → Bool} (h : ∀ kl, left kl = false) (x : List UInt8) : cdU T U left x = flU T U x := by
  unfold cdU
  rw [h]
  simp
theorem Rg.left_eq {w : World} {b r n cnt : Nat} {U : List UInt8 → Option Int} {left : Lit → Bool} (h : Rg w b r n U left cnt) : w.rangeLeft b r = cnt := by
  obtain ⟨D, h1, h2⟩ := h
  exact h1.left_eq
theorem off_grown {F : Nat → Prop} {w0 w w' : World} {r : Nat} (h : Off F w0 w) (hg : w.grownBy w' (some r)) (hr : w0.heap.size ≤ r) : Off F w0 w' :=
  ⟨hg.os.trans h.os, hg.tape.trans h.tape, hg.output.trans h.output, Nat.le_trans h.size hg.size, fun k hk hF => by
    rw [hg.block k (Nat.lt_of_lt_of_le hk h.size) (fun e => by injection e with e; omega)]
    exact h.block k hk hF⟩
theorem tr_fall {w wr w5 w6 : World} {s a b c d r : Nat} {T : Int} {P : List UInt8 → Option PV} {U : List UInt8 → Option Int} {H : List UInt8 → Option Unit} {C : List UInt8 → Option Nat} {n : Nat} {left : Lit → Bool} {k : List UInt8} {a0 : Int} {cnt5 : Nat} {Ks : List (List UInt8)}
    (ho : Off (FL s (some a) (some b) (some c) (some d)) w wr) (hl : left (.string k) = true) (hq : cdU T U left k = false) (hU : U k = some a0) (ha : a0 ≤ T) (hUP : ∀ x, (U x).isSome = true → (P x).isSome = true ∧ (C x).isSome = true)
    (hK : Ks.Nodup ∧ (∀ x, (H x).isSome = true ∨ (U x).isSome = true → x ∈ Ks) ∧ Ks.length ≤ n)
    (h5 : LR w5 s (some a) (some b) (some c) (some d) T (updO (fP (cdU T U left) P) k none) (updO (fU (cdU T U left) U) k none) (fH (cdU T U left) H) (updO (fC (cdU T U left) C) k (some (cN (fC (cdU T U left) C) k + 1))) n)
    (hg : Rg w5 b r n (updO (fU (cdU T U left) U) k none) (fun x => (left x && !x.sameKey (.string k)) && !x.sameKey (.string k)) cnt5)
    (hm : MO eU w6 (some c) (updO (fH (cdU T U left) H) k (some ())) (if (fH (cdU T U left) H k).isSome then n else n + 1)) (ht : TO w5 w6 (some c)) (hne : b ≠ c ∧ r ≠ c) (ho5 : Off (FL s (some a) (some b) (some c) (some d)) w w5) :
    TR w w6 s a b c d r T P U H C n (fun x => left x && !x.sameKey (.string k)) cnt5 := by
  have hc := cd_fall (T := T) (left := left) hU ha
  have hkU : ∀ x, flU T U x = true → (U x).isSome = true := fun x h => by
    unfold flU at h
    cases hu : U x with
    | none => rw [hu] at h; cases h
    | some a => rfl
  have hin : ∀ x, (updO (fH (cdU T U left) H) k (some ()) x).isSome = true → x ∈ Ks := fun x h => by
    unfold updO at h
    split at h
    · rename_i e
      exact hK.2.1 x (Or.inr (by rw [e, hU]; rfl))
    · unfold fH at h
      split at h
      · rename_i e
        unfold cdU at e
        rw [Bool.and_eq_true] at e
        exact hK.2.1 x (Or.inr (hkU x e.1))
      · exact hK.2.1 x (Or.inl h)
  have hm2 := (hm.tight (Ks.filter fun x => (updO (fH (cdU T U left) H) k (some ()) x).isSome) (hK.1.filter _) (fun x => by rw [List.mem_filter]; exact ⟨fun h => h.2, fun h => ⟨hin x h, h⟩⟩)).mono (k := n) (Nat.le_trans (List.length_filter_le _ _) hK.2.2)
  have h6 := h5.turnH ht hm2 (Nat.le_refl _)
  have hg6 := hg.kept ht hne.1 hne.2
  rw [Go.Maps.strike_twice] at hg6
  refine ⟨h6.congr (fun x => ?_) (fun x => ?_) (fun x => ?_) (fun x => ?_), rg_congr hg6 (fun x => ?_), Off.on ho5 (off_to ht flH)⟩
  · unfold updO fP
    rw [hc]
    by_cases e : x = k <;> simp [e]
  · unfold updO fU
    rw [hc]
    by_cases e : x = k <;> simp [e]
  · unfold updO fH
    rw [hc]
    by_cases e : x = k <;> simp [e]
  · unfold updO
    by_cases e : x = k
    · subst e
      rw [if_pos rfl]
      unfold cN
      rw [fc_at hq]
      unfold fC
      rw [hc, if_pos rfl, if_pos rfl]
      rfl
    · rw [if_neg e]
      unfold fC
      rw [hc, if_neg e]
  · unfold updO fU
    rw [hc]
    by_cases e : x = k <;> simp [e]
def TickP (w : World) (s : Nat) (mv md mh mc : Option Nat) (T : Int) (P : List UInt8 → Option PV) (U : List UInt8 → Option Int) (H : List UInt8 → Option Unit) (C : List UInt8 → Option Nat) (n : Nat) (w' : World) : Prop := LR w' s mv md mh mc T (fP (flU T U) P) (fU (flU T U) U) (fH (flU T U) H) (fC (flU T U) C) n ∧ Off (FL s mv md mh mc) w w'
section
variable {w : World} {s : Nat} {P : List UInt8 → Option PV} {U : List UInt8 → Option Int} {H : List UInt8 → Option Unit} {C : List UInt8 → Option Nat} {n : Nat}
theorem qmax (m : Int) (ats : Array TypeId) (ty : TypeId) (W : World) : (Builtin.max_ ats ty #[.int .i64 m, .int .i64 0]).run Try.prog W = .ok (.int .i64 ((m.toNat : Nat) : Int)) W := by
  have e : (if (0 : Int) > m then (0 : Int) else m) = ((m.toNat : Nat) : Int) := by split <;> omega
  rw [← e]
  rfl
theorem qmin (x y z : Nat) (hz : z = min x y) (ats : Array TypeId) (ty : TypeId) (W : World) : (Builtin.min_ ats ty #[.int .i64 (x : Int), .int .i64 (y : Int)]).run Try.prog W = .ok (.int .i64 (z : Int)) W := by
  have e : (if (y : Int) < (x : Int) then (y : Int) else (x : Int)) = (z : Int) := by split <;> omega
  rw [← e]
  rfl
set_option maxHeartbeats 4000000 in
theorem tick_any (a b c d tn : Nat) (m : Int) (Tn : Nat) (hT : Tn = tickT m tn) (h : LR w s (some a) (some b) (some c) (some d) (tn : Int) P U H C n) (ht : tn ≤ most) (hm0 : -9223372036854775808 ≤ m) (hm1 : m ≤ 9223372036854775807) (hUP : ∀ x, (U x).isSome = true → (P x).isSome = true ∧ (C x).isSome = true) (hC : ∀ x, cN C x ≤ 1000000) (hz : n ≤ 1000000) (Ks : List (List UInt8)) (hKn : Ks.Nodup) (hKk : ∀ x, (H x).isSome = true ∨ (U x).isSome = true → x ∈ Ks) (hKl : Ks.length ≤ n) :
    Calls Try.prog 17 #[.pointer (some ⟨s, 0, none⟩), .int .i64 m] w fun e w' => e = .returned (.tuple #[]) ∧ TickP w s (some a) (some b) (some c) (some d) (Tn : Int) P U H C n w' := by
  have HR := Lib.hid h
  obtain ⟨M, hM⟩ : ∃ M, M = m.toNat := ⟨_, rfl⟩
  obtain ⟨Y, hY⟩ : ∃ Y, Y = most - tn := ⟨_, rfl⟩
  obtain ⟨Z, hZ⟩ : ∃ Z, Z = min M Y := ⟨_, rfl⟩
  have q1 := fun ats ty W => qmax m ats ty W
  rw [← hM] at q1
  have q2 := fun ats ty W => qmin M Y Z hZ ats ty W
  have y1 : wrap64 (1099511627776 - (tn : Int)) = (Y : Int) := by unfold most at *; unfold wrap64; omega
  have y2 : wrap64 ((tn : Int) + (Z : Int)) = (Tn : Int) := by unfold tickT most at *; unfold wrap64; omega
  have c0 := h.sc.c0
  have f0 := h.sc.f 0
  have HUP := Lib.hid hUP
  have HCb := Lib.hid hC
  have HZz := Lib.hid hz
  have HKs := Lib.hid (show Ks.Nodup ∧ (∀ x, (H x).isSome = true ∨ (U x).isSome = true → x ∈ Ks) ∧ Ks.length ≤ n from ⟨hKn, hKk, hKl⟩)
  clear hM hY hZ h hT hUP hC hz hKn hKk hKl ht hm0 hm1
  go_enter Try.func17, Try.ntmps17
  go_wp2_with fail
  refine wp_region_quiet_tail_lit 15 (by kernel_rfl) (by kernel_rfl) ?_
  simp only [List.take_succ_cons, List.take_zero, List.drop_succ_cons, List.drop_zero]
  repeat (go_big_quiet_step (fail))
  refine wpQuiet_nil ?_
  rintro _ ⟨nq, rfl⟩
  have HR1 := Lib.hid (show LR (w.drewN nq) s (some a) (some b) (some c) (some d) (tn : Int) P U H C n from HR.out.same (fun _ _ => rfl))
  have HO1 := Lib.hid (show Off (FL s (some a) (some b) (some c) (some d)) w (w.drewN nq) from ⟨rfl, rfl, rfl, Nat.le_refl _, fun _ _ _ => rfl⟩)
  have HS1 := Lib.hid (show (w.drewN nq).heap.size = w.heap.size from rfl)
  have g0 : (w.drewN nq).cell? ⟨s, 0, none⟩ = some (.int .i64 (tn : Int)) := c0
  have g1 : (w.drewN nq).frozen? ⟨s, 0, none⟩ = false := f0
  clear c0 f0
  generalize w.drewN nq = w1 at HR1 HO1 HS1 g0 g1 ⊢
  go_upto_region 1 with fail
  have HR2 := Lib.hid (HR1.out.time (Tn : Int))
  have HO2 := Lib.hid (Off.on HO1.out (off_cell (F := FL s (some a) (some b) (some c) (some d)) (w := w1) s 0 (.int .i64 (Tn : Int)) (Or.inl rfl)))
  have HS2 := Lib.hid (show (w1.setCell ⟨s, 0, none⟩ (.int .i64 (Tn : Int))).heap.size = w.heap.size by simp [HS1.out])
  clear g0 g1 HR1 HO1 HS1 q1 q2 y1 y2
  generalize w1.setCell ⟨s, 0, none⟩ (.int .i64 (Tn : Int)) = w2 at HR2 HO2 HS2 ⊢
  have c2 := HR2.out.sc.c2
  obtain ⟨r, hr⟩ : ∃ r, r = w2.heap.size := ⟨_, rfl⟩
  have HRr := Lib.hid hr
  clear hr
  go_wp2_with (at_range; (refine wpList_range_rg rfl (.tmp 24) rfl Try.underlying60 rfl HR2.out.d ?_; intro w3 left0 cnt0 hrg0 hl0 hb0 hs0))
  rw [← HRr.out] at hrg0 ⊢
  have HL0 := Lib.hid (show ∀ x, cdU (Tn : Int) U left0 x = false from fun x => by
    unfold cdU flU
    cases hU : U x with
    | none => rfl
    | some a => rw [hl0 x (by rw [hU]; rfl)]; simp)
  have HT0 := Lib.hid (show TR w w3 s a b c d r (Tn : Int) P U H C n left0 cnt0 from ⟨(HR2.out.keep hb0).congr (fun x => by unfold fP; rw [HL0.out x]; rfl) (fun x => by unfold fU; rw [HL0.out x]; rfl) (fun x => by unfold fH; rw [HL0.out x]; rfl) (fun x => by unfold fC; rw [HL0.out x]; rfl), rg_congr hrg0 (fun x => by unfold fU; rw [HL0.out x]; rfl), Off.on HO2.out (Off.of_below hb0)⟩)
  have HFr := Lib.hid (show ¬ FL s (some a) (some b) (some c) (some d) r from fun h => by
    have h1 := HR2.out.lt r h
    have h2 := HRr.out
    omega)
  clear hrg0 hl0 hb0 hs0 c2
  go_frame
  go_loopw [4] (fun _ wr => ∃ (left : Lit → Bool) (cnt : Nat), Hid (TR w wr s a b c d r (Tn : Int) P U H C n left cnt)) (fun _ wr => wr.rangeLeft b r)
  case atStart => exact ⟨_, _, HT0⟩
  case round =>
    clear HT0
    obtain ⟨left, cnt, HTr⟩ := hrel
    go_wp2_with (at_next; refine wpList_next_rg rfl (.tmp 25) rfl rfl HTr.out.rg ?_ ?_)
    · intro hc0 hl0
      have HE := Lib.hid (show TickP w s (some a) (some b) (some c) (some d) (Tn : Int) P U H C n wr from ⟨HTr.out.lr.congr (fun x => by unfold fP; rw [cd_end hl0]) (fun x => by unfold fU; rw [cd_end hl0]) (fun x => by unfold fH; rw [cd_end hl0]) (fun x => by unfold fC; rw [cd_end hl0]), HTr.out.of⟩)
      clear hc0 hl0
      go_wp2_with fail
      go_end0
      exact ⟨rfl, HE.out⟩
    · intro K k a0 w4 cnt4 hK hlk hU hrg4 hlt4 hg4 hs4 hen
      have hq := cd_open (T := (Tn : Int)) (U := U) hlk
      have hUk : U k = some a0 := by
        unfold fU at hU
        rw [hq] at hU
        exact hU
      have HQ := Lib.hid hq
      have HUk := Lib.hid hUk
      have HLk := Lib.hid hlk
      have HK := Lib.hid hK
      have HG4 := Lib.hid hrg4
      have HL4 := Lib.hid hlt4
      have HR4 := Lib.hid (HTr.out.lr.same (fun j hj => hg4.block j (HTr.out.lr.lt j hj) (fun e => HFr.out (by injection e with e; rw [← e]; exact hj))))
      have HO4 := Lib.hid (off_grown HTr.out.of hg4 (by rw [HRr.out, HS2.out]; exact Nat.le_refl _))
      have c0 := HR4.out.sc.c0
      clear hq hUk hU hlk hK hrg4 hlt4 hg4 hs4
      by_cases ha : a0 ≤ (Tn : Int)
      · have d1 : decide (a0 ≤ (Tn : Int)) = true := decide_eq_true ha
        have HA := Lib.hid ha
        have CD := Lib.hid (drop_rg (w := w4) (s := s) (t := (Tn : Int)) (a := a) (b := b) (c := c) (d := d) K k HK.out HR4.out HG4.out HFr.out (by rw [fc_at HQ.out]; exact (HUP.out k (by rw [HUk.out]; rfl)).2) (by unfold cN; rw [fc_at HQ.out]; have := HCb.out k; unfold cN at this; omega) HZz.out)
        have HNe := Lib.hid (show b ≠ c ∧ r ≠ c from ⟨fun e => ((al_ne HR4.out.al).2.2.1 b rfl).2.1 (by rw [e]), fun e => HFr.out (Or.inr (Or.inr (Or.inr (Or.inl (by rw [e])))))⟩)
        clear ha
        go_wp2_with (first
          | (go_at_call 39; (with_reducible refine CD.out.mono ?_); rintro e w5 ⟨rfl, h5, ⟨cnt5, hc5, hrg5⟩, o5⟩; have HR5 := Lib.hid h5; have HG5 := Lib.hid hrg5; have HC5 := Lib.hid hc5; have HO5 := Lib.hid (Off.on HO4.out o5); clear h5 hc5 hrg5 o5 c0; have c3 := HR5.out.sc.c3)
          | (at_mapUpdate; refine wpList_store_mo rfl (.tmp 43) (.tmp 44) (.tmp 45) rfl Try.underlying61 (by have := HZz.out; unfold maxLen; omega) rfl HR5.out.h rfl HK.out () rfl ?_; intro w6 hm6 ht6; have HM6 := Lib.hid hm6; have HT6 := Lib.hid ht6; clear hm6 ht6 c3))
        have HE := Lib.hid (tr_fall HTr.out.of HLk.out HQ.out HUk.out HA.out HUP.out HKs.out HR5.out HG5.out HM6.out HT6.out HNe.out HO5.out)
        have HL6 := Lib.hid (show w6.rangeLeft b r < wr.rangeLeft b r by rw [HE.out.rg.left_eq, HTr.out.rg.left_eq]; have := HL4.out; have := HC5.out; omega)
        go_frame
        go_roundw
        case rel => exact ⟨_, cnt5, HE⟩
        case measure => exact HL6.out
      · have d1 : decide (a0 ≤ (Tn : Int)) = false := decide_eq_false ha
        have HE := Lib.hid (show TR w w4 s a b c d r (Tn : Int) P U H C n (fun x => left x && !x.sameKey (.string k)) cnt4 from
          ⟨HR4.out.congr (fun x => by unfold fP; rw [cd_stay HUk.out ha]) (fun x => by unfold fU; rw [cd_stay HUk.out ha]) (fun x => by unfold fH; rw [cd_stay HUk.out ha]) (fun x => by unfold fC; rw [cd_stay HUk.out ha]), rg_congr HG4.out (fun x => by unfold fU; rw [cd_stay HUk.out ha]), HO4.out⟩)
        have HL6 := Lib.hid (show w4.rangeLeft b r < wr.rangeLeft b r by rw [HE.out.rg.left_eq, HTr.out.rg.left_eq]; exact HL4.out)
        clear ha
        go_wp2_with fail
        go_roundw
        case rel => exact ⟨_, cnt4, HE⟩
        case measure => exact HL6.out
set_option maxHeartbeats 4000000 in
theorem tick_nil (tn : Nat) (m : Int) (Tn : Nat) (hT : Tn = tickT m tn) (h : LR w s none none none none (tn : Int) P U H C n) (ht : tn ≤ most) (hm0 : -9223372036854775808 ≤ m) (hm1 : m ≤ 9223372036854775807) :
    Calls Try.prog 17 #[.pointer (some ⟨s, 0, none⟩), .int .i64 m] w fun e w' => e = .returned (.tuple #[]) ∧ TickP w s none none none none (Tn : Int) P U H C n w' := by
  have HR := Lib.hid h
  obtain ⟨M, hM⟩ : ∃ M, M = m.toNat := ⟨_, rfl⟩
  obtain ⟨Y, hY⟩ : ∃ Y, Y = most - tn := ⟨_, rfl⟩
  obtain ⟨Z, hZ⟩ : ∃ Z, Z = min M Y := ⟨_, rfl⟩
  have q1 := fun ats ty W => qmax m ats ty W
  rw [← hM] at q1
  have q2 := fun ats ty W => qmin M Y Z hZ ats ty W
  have y1 : wrap64 (1099511627776 - (tn : Int)) = (Y : Int) := by unfold most at *; unfold wrap64; omega
  have y2 : wrap64 ((tn : Int) + (Z : Int)) = (Tn : Int) := by unfold tickT most at *; unfold wrap64; omega
  have c0 := h.sc.c0
  have f0 := h.sc.f 0
  clear hM hY hZ h hT ht hm0 hm1
  go_enter Try.func17, Try.ntmps17
  go_wp2_with fail
  refine wp_region_quiet_tail_lit 15 (by kernel_rfl) (by kernel_rfl) ?_
  simp only [List.take_succ_cons, List.take_zero, List.drop_succ_cons, List.drop_zero]
  repeat (go_big_quiet_step (fail))
  refine wpQuiet_nil ?_
  rintro _ ⟨nq, rfl⟩
  have HR1 := Lib.hid (show LR (w.drewN nq) s none none none none (tn : Int) P U H C n from HR.out.same (fun _ _ => rfl))
  have HO1 := Lib.hid (show Off (FL s none none none none) w (w.drewN nq) from ⟨rfl, rfl, rfl, Nat.le_refl _, fun _ _ _ => rfl⟩)
  have g0 : (w.drewN nq).cell? ⟨s, 0, none⟩ = some (.int .i64 (tn : Int)) := c0
  have g1 : (w.drewN nq).frozen? ⟨s, 0, none⟩ = false := f0
  clear c0 f0
  generalize w.drewN nq = w1 at HR1 HO1 g0 g1 ⊢
  go_upto_region 1 with fail
  have HR2 := Lib.hid (HR1.out.time (Tn : Int))
  have HO2 := Lib.hid (Off.on HO1.out (off_cell (F := FL s none none none none) (w := w1) s 0 (.int .i64 (Tn : Int)) (Or.inl rfl)))
  clear g0 g1 HR1 HO1 q1 q2 y1 y2
  generalize w1.setCell ⟨s, 0, none⟩ (.int .i64 (Tn : Int)) = w2 at HR2 HO2 ⊢
  have c2 := HR2.out.sc.c2
  have hrg := run_range_nilMap (P := Try.prog) w2 60 9 3 Try.underlying60
  have hnx : ∀ ty, (Instr.next (.pointer (some ⟨w2.heap.size, 0, none⟩)) false ty).run Try.prog (w2.alloc (.mapIter none 0 #[] 0)) = .ok (.tuple #[.bool false]) (w2.alloc (.mapIter none 0 #[] 0)) := fun ty => run_next_nilMap w2 ty 0 0 #[]
  have hb := (Below.refl w2.heap.size w2).alloc (Nat.le_refl _) (.mapIter none 0 #[] 0)
  have HE := Lib.hid (show TickP w s none none none none (Tn : Int) P U H C n (w2.alloc (.mapIter none 0 #[] 0)) from by
    have hu : ∀ x, flU (Tn : Int) U x = false := fun x => by
      unfold flU
      rw [show U x = none from HR.out.d x]
    exact ⟨(HR2.out.keep hb).congr (fun x => by unfold fP; rw [hu]; rfl) (fun x => by unfold fU; rw [hu]; rfl) (fun x => by unfold fH; rw [hu]; rfl) (fun x => by unfold fC; rw [hu]; rfl), Off.on HO2.out (Off.of_below hb)⟩)
  clear hb
  go_wp2_with fail
  refine wp_loop_rounds 1 ?_
  rw [rounds_succ]
  go_wp2_with fail
  go_end0
  exact ⟨rfl, HE.out⟩
end

end Go.Proofs.Ytbcjgkedlapmhaa.LstM
namespace Go.Proofs.Ytbcjgkedlapmhaa.LstM
open Go.RowKit Kit StrT RowG BOrd ValT StoT MapF LstT RefV ValM
open Go.Op (bytesLess)
set_option linter.unusedVariables false
set_option maxRecDepth 100000

/-- The keys of a map, put in order, are the ones that rise. -/
theorem sorted_is {ss Ks : List (List UInt8)} (hp : ss.Perm Ks) (hr : rises Ks) : ss.mergeSort (fun x y => decide (x ≤ y)) = Ks := by
  have tr : ∀ a b c : List UInt8, decide (a ≤ b) = true → decide (b ≤ c) = true → decide (a ≤ c) = true := fun a b c h1 h2 => by
    simp only [decide_eq_true_eq] at *
    exact List.le_trans h1 h2
  have htot : ∀ a b : List UInt8, (decide (a ≤ b) || decide (b ≤ a)) = true := fun a b => by
    simp only [Bool.or_eq_true, decide_eq_true_eq]
    exact List.le_total a b
  refine List.Perm.eq_of_pairwise (le := fun a b => decide (a ≤ b) = true) (fun a b _ _ h1 h2 => ?_) (List.pairwise_mergeSort tr htot ss) (hr.imp fun {a b} h => ?_) ((List.mergeSort_perm ss _).trans hp)
  · simp only [decide_eq_true_eq] at h1 h2
    exact List.le_antisymm h1 h2
  · rw [decide_eq_true_eq, le_less]
    exact less_asymm h
theorem enc_flat : ∀ L : List (List UInt8), L.map encStr = flat strE L
  | [] => rfl
  | a :: L => by
    rw [flat_cons, List.map_cons, enc_flat L]
    rfl
section
variable {w : World} {s : Nat} {mv md mh mc : Option Nat} {t : Int} {P : List UInt8 → Option PV} {U : List UInt8 → Option Int} {H : List UInt8 → Option Unit} {C : List UInt8 → Option Nat} {n : Nat}
def KeysP (Ks : List (List UInt8)) (w : World) (e : Ending) (w' : World) : Prop := ∃ q c, e = .returned (.slice q Ks.length c) ∧ Rs strE w' q Ks ∧ Ks.length ≤ c ∧ c ≤ 9223372036854775807 ∧ (q = none → c = 0) ∧ (0 < Ks.length → ∀ a, q = some a → w.heap.size ≤ a.block ∧ a.block < w'.heap.size) ∧ Below w.heap.size w w'
theorem keysP_of {Ks ss : List (List UInt8)} {w w0 w' : World} {v : Value} (hw : w.heap.size ≤ w0.heap.size) (hp : ss.Perm Ks) (hr : rises Ks) (h : w'.ownsRow w0.heap.size 9 1 v ss.length ((ss.mergeSort (fun x y => decide (x ≤ y))).map encStr)) (hb : Below w.heap.size w w') : KeysP Ks w (.returned v) w' := by
  rw [sorted_is hp hr, hp.length_eq] at h
  have h1 : OwnR strE w0.heap.size w' v Ks := by
    rw [enc_flat] at h
    exact h
  obtain ⟨q, c, rfl, a1, a2, a3, a4⟩ := OwnR.rowO h1
  refine ⟨q, c, rfl, ?_, a1, a2, a3, ?_, hb⟩
  · rcases a4 with rfl | ⟨g, rfl, hg, ho⟩
    · exact Rs.nil _ _ _
    · exact ho.rs
  · intro h0 a ha
    rcases a4 with rfl | ⟨g, rfl, hg, ho⟩
    · simp at h0
    · injection ha with ha
      subst ha
      exact ⟨Nat.le_trans hw hg, ho.lt⟩
set_option maxHeartbeats 4000000 in
theorem keys_any (h : LR w s mv md mh mc t P U H C n) (Ks : List (List UInt8)) (hr : rises Ks) (hk : ∀ x, x ∈ Ks ↔ (P x).isSome = true) (hl : Ks.length ≤ 1000000) :
    Calls Try.prog 27 #[.pointer (some ⟨s, 0, none⟩)] w (KeysP Ks w) := by
  have hnd : Ks.Nodup := hr.imp fun {a b} h e => by
    rw [e, less_irrefl] at h
    cases h
  have c1 := h.sc.c1
  have HR := Lib.hid hr
  cases mv with
  | none =>
    have hK0 : Ks = [] := by
      cases Ks with
      | nil => rfl
      | cons a L =>
        have := (hk a).1 (by simp)
        rw [h.v a] at this
        cases this
    subst hK0
    clear h hk hl hnd
    refine (callsIn_wide (n := 6)).1 ?_
    have hfK : Fence.wide.fn 48 := trivial
    have hfS : Fence.wide.fn 47 := trivial
    refine callsIn_of_wp Try.func27 rfl trivial ?_ rfl
    simp only [Try.ntmps27, List.size_toArray, List.length_cons, List.length_nil, Nat.reduceAdd, Nat.reduceSub, Array.replicate_succ, Array.replicate_zero, List.push_toArray, List.append_toArray, List.nil_append, List.cons_append]
    gi_wp2_with (first
      | (gi_at_call 48; refine (Try.maps_Keys_48 _ _).mono ?_; rintro e w' ⟨rfl, rfl⟩)
      | (gi_at_call 47; refine (Try.slices_Sorted_keys_nil_47_48 w).mono ?_; rintro e w' ⟨v, ss, rfl, hS, hrow, hnil, hb⟩))
    go_ret
    exact keysP_of (by simp) (by rw [hS]) HR.out hrow (((Below.refl _ w).alloc (Nat.le_refl _) _).trans (hb.mono (by simp)))
  | some b =>
    obtain ⟨D, h1, h2⟩ := h.v
    obtain ⟨hsz, hperm⟩ := size_of h1 h2 Ks hnd (fun x => by rw [hk, Option.isSome_map])
    have HP := Lib.hid hperm
    have HO := Lib.hid h1
    have hmax : Go.Maps.size D ≤ maxLen := by rw [hsz]; unfold maxLen; omega
    have hbytes : Go.Maps.size D * 16 ≤ 140737488355328 := by rw [hsz]; omega
    have HM := Lib.hid (And.intro hmax hbytes)
    clear h hk hl hnd h1 h2 hsz hperm hmax hbytes
    refine (callsIn_wide (n := 6)).1 ?_
    have hfK : Fence.wide.fn 48 := trivial
    have hfS : Fence.wide.fn 47 := trivial
    refine callsIn_of_wp Try.func27 rfl trivial ?_ rfl
    simp only [Try.ntmps27, List.size_toArray, List.length_cons, List.length_nil, Nat.reduceAdd, Nat.reduceSub, Array.replicate_succ, Array.replicate_zero, List.push_toArray, List.append_toArray, List.nil_append, List.cons_append]
    gi_wp2_with (first
      | (gi_at_call 48; refine (Try.maps_Keys_48 _ _).mono ?_; rintro e w' ⟨rfl, rfl⟩)
      | (gi_at_call 47; refine (Try.slices_Sorted_keys_47_48 b n D anyV w HO.out HM.out.1 HM.out.2).mono ?_; rintro e w' ⟨v, ss, rfl, hS, hrow, hnil, hb⟩))
    go_ret
    exact keysP_of (by simp) (hS.trans HP.out) HR.out hrow (((Below.refl _ w).alloc (Nat.le_refl _) _).trans (hb.mono (by simp)))
end

end Go.Proofs.Ytbcjgkedlapmhaa.LstM
