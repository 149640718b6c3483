/-
  The landed code of package sets: Move, of two sets.
-/
import Derived.Test.YtmdkegamfjkfbaaDoorSetLaws
import Derived.Deep.RegionLaw
import Derived.Deep.DeepCutAuto
import Derived.StillTailTactics
namespace Go.Proofs.YtmdkegamfjkfbaaDoor.SetM
open Go.RowKit Kit StrT RowG BOrd ValT StoT ReplyT ReplyMath ValM BytesIn DoT Low LstT SetT NumL ReplyM LawK DoV
set_option linter.unusedVariables false
set_option maxRecDepth 100000

theorem results_two_slot {P : Program} {fn : Func} {p p' q : Tmp} {ty : TypeId} (h : fn.results = #[.cell p ty, .cell p' ty, .tmp q]) (tmps : Array Value) (w : World) (g g' : Nat) (t t' : TypeId) (cs cs' : Array Value) (fr fr' : Nat × Nat) (d : TypeDesc) (v : Value)
    (hp : tmps.getD p undef = .pointer (some ⟨g, 0, none⟩)) (hg : w.heap[g]? = some (.cells cs t fr)) (hp' : tmps.getD p' undef = .pointer (some ⟨g', 0, none⟩)) (hg' : w.heap[g']? = some (.cells cs' t' fr'))
    (hu : P.underlying ty = some d) (hd : (match d with | .struct _ | .array _ _ => true | _ => false) = true) (hi : (P.info? ty).map (·.size) = some cs.size) (hi' : (P.info? ty).map (·.size) = some cs'.size) (hq : tmps.getD q undef = v) :
    (results fn tmps).run P w = .ok (.tuple #[.agg cs, .agg cs', v]) w := by
  have h1 : tmps[p]?.getD undef = .pointer (some ⟨g, 0, none⟩) := by simpa using hp
  have h2 : tmps[p']?.getD undef = .pointer (some ⟨g', 0, none⟩) := by simpa using hp'
  have h3 : tmps[q]?.getD undef = v := by simpa using hq
  simp [results, h, h1, h2, h3, asAddr, run_loadVar_row w g t ty cs fr d hg hu hd hi, run_loadVar_row w g' t' ty cs' fr' d hg' hu hd hi']
theorem RowI.other {w0 w w' : World} {q : Option Addr} {n c : Nat} {L : List (List UInt8)} (h : RowI w0 w q n c L) (hb : Below w0.heap.size w0 w') (ho : ∀ k, (Value.slice q n c).ownBlock = some k → w'.heap[k]? = w.heap[k]?) : RowI w0 w' q n c L :=
  ⟨hb, OwnR.same h.ow ho, h.ln, h.up, h.lm⟩
/-- The four blocks that Move makes first: what it was given, its answers. -/
structure MB (w W : World) (x y z u : Array Value) : Prop where
  b3 : W.heap[w.heap.size]? = some (.cells x 26 (0, 0))
  b4 : W.heap[w.heap.size + 1]? = some (.cells y 26 (0, 0))
  b6 : W.heap[w.heap.size + 1 + 1]? = some (.cells z 26 (0, 0))
  b7 : W.heap[w.heap.size + 1 + 1 + 1]? = some (.cells u 26 (0, 0))
  bl : Below w.heap.size w W
  sz : w.heap.size + 1 + 1 + 1 + 1 ≤ W.heap.size
theorem mb_at (w W : World) (h : W.heap.size = w.heap.size + 1 + 1 + 1) (hb : Below w.heap.size w W) (x y z u : Array Value) (h3 : W.heap[w.heap.size]? = some (.cells x 26 (0, 0))) (h4 : W.heap[w.heap.size + 1]? = some (.cells y 26 (0, 0))) (h6 : W.heap[w.heap.size + 1 + 1]? = some (.cells z 26 (0, 0))) :
    MB w (W.alloc (.cells u 26)) x y z u where
  b3 := by rw [Below.heap_alloc _ _ _ (by omega)]; exact h3
  b4 := by rw [Below.heap_alloc _ _ _ (by omega)]; exact h4
  b6 := by rw [Below.heap_alloc _ _ _ (by omega)]; exact h6
  b7 := by rw [← h]; exact heap_alloc_last W _
  bl := hb.alloc (by omega) _
  sz := by simp; omega
theorem MB.new (w : World) (x y z u : Array Value) : MB w ((((w.alloc (.cells x 26)).alloc (.cells y 26)).alloc (.cells z 26)).alloc (.cells u 26)) x y z u := by
  have s1 : (w.alloc (.cells x 26)).heap.size = w.heap.size + 1 := by simp
  have s2 : ((w.alloc (.cells x 26)).alloc (.cells y 26)).heap.size = w.heap.size + 1 + 1 := by simp
  refine mb_at w _ (by simp) (((Kit.below1 w _).alloc (by simp) _).alloc (by simp; omega) _) x y z u ?_ ?_ ?_
  · rw [Below.heap_alloc _ _ _ (by simp; omega), Below.heap_alloc _ _ _ (by simp)]
    exact heap_alloc_last w _
  · rw [Below.heap_alloc _ _ _ (by simp), ← s1]
    exact heap_alloc_last _ _
  · rw [← s2]
    exact heap_alloc_last _ _
section
variable {w W : World} {x y z u : Array Value}
theorem MB.keep {W' : World} (h : MB w W x y z u) (hb : Below W.heap.size W W') : MB w W' x y z u where
  b3 := by rw [hb.block _ (by have := h.sz; omega)]; exact h.b3
  b4 := by rw [hb.block _ (by have := h.sz; omega)]; exact h.b4
  b6 := by rw [hb.block _ (by have := h.sz; omega)]; exact h.b6
  b7 := by rw [hb.block _ (by have := h.sz; omega)]; exact h.b7
  bl := h.bl.trans (hb.mono (by have := h.sz; omega))
  sz := Nat.le_trans h.sz hb.size
end
/-- Both of what was given are written over, field by field: in whichever order. -/
theorem mb_set {w W : World} {x0 x1 x2 x3 x4 y0 y1 y2 y3 y4 : Value} {z u : Array Value} (h : MB w W #[x0, x1, x2, x3, x4] #[y0, y1, y2, y3, y4] z u) (a0 a1 a2 a3 a4 b0 b1 b2 b3 b4 : Value) :
    MB w (five (five W w.heap.size a0 a1 a2 a3 a4) (w.heap.size + 1) b0 b1 b2 b3 b4) #[a0, a1, a2, a3, a4] #[b0, b1, b2, b3, b4] z u := by
  have h4 : (five W w.heap.size a0 a1 a2 a3 a4).heap[w.heap.size + 1]? = _ := (five_other _ _ _ _ _ _ _ _ (by omega)).trans h.b4
  refine ⟨?_, val_five h4 _ _ _ _ _, ?_, ?_, five_below (five_below h.bl (Nat.le_refl _) _ _ _ _ _) (by omega) _ _ _ _ _, by simpa [five] using h.sz⟩
  · rw [five_other _ _ _ _ _ _ _ _ (by omega)]; exact val_five h.b3 _ _ _ _ _
  · rw [five_other _ _ _ _ _ _ _ _ (by omega), five_other _ _ _ _ _ _ _ _ (by omega)]; exact h.b6
  · rw [five_other _ _ _ _ _ _ _ _ (by omega), five_other _ _ _ _ _ _ _ _ (by omega)]; exact h.b7
theorem mb_set' {w W : World} {x0 x1 x2 x3 x4 y0 y1 y2 y3 y4 : Value} {z u : Array Value} (h : MB w W #[x0, x1, x2, x3, x4] #[y0, y1, y2, y3, y4] z u) (a0 a1 a2 a3 a4 b0 b1 b2 b3 b4 : Value) :
    MB w (five (five W (w.heap.size + 1) b0 b1 b2 b3 b4) w.heap.size a0 a1 a2 a3 a4) #[a0, a1, a2, a3, a4] #[b0, b1, b2, b3, b4] z u := by
  have h3 : (five W (w.heap.size + 1) b0 b1 b2 b3 b4).heap[w.heap.size]? = _ := (five_other _ _ _ _ _ _ _ _ (by omega)).trans h.b3
  refine ⟨val_five h3 _ _ _ _ _, ?_, ?_, ?_, five_below (five_below h.bl (by omega) _ _ _ _ _) (Nat.le_refl _) _ _ _ _ _, by simpa [five] using h.sz⟩
  · rw [five_other _ _ _ _ _ _ _ _ (by omega)]; exact val_five h.b4 _ _ _ _ _
  · rw [five_other _ _ _ _ _ _ _ _ (by omega), five_other _ _ _ _ _ _ _ _ (by omega)]; exact h.b6
  · rw [five_other _ _ _ _ _ _ _ _ (by omega), five_other _ _ _ _ _ _ _ _ (by omega)]; exact h.b7
/-- Two copies, whose rows are the call's own, in blocks of their own. -/
structure Two (w W : World) (p r : PV) (L R : List (List UInt8)) : Prop where
  pi : p.In W
  ri : r.In W
  pd : p.d = setV L
  rd : r.d = setV R
  pa : ∀ j, p.at_ j → w.heap.size + 1 + 1 + 1 + 1 ≤ j
  ra : ∀ j, r.at_ j → w.heap.size + 1 + 1 + 1 + 1 ≤ j
  po : OwnR strE (w.heap.size + 1 + 1 + 1 + 1) W (.slice p.ql p.nl p.cl) L
  ro : OwnR strE (w.heap.size + 1 + 1 + 1 + 1) W (.slice r.ql r.nl r.cl) R
  ne : ∀ j k, (Value.slice p.ql p.nl p.cl).ownBlock = some j → (Value.slice r.ql r.nl r.cl).ownBlock = some k → j < k
theorem two_same {w W W' : World} {p r : PV} {L R : List (List UInt8)} (h : Two w W p r L R) (hs : W.heap.size ≤ W'.heap.size) (ho : ∀ j, w.heap.size + 1 + 1 + 1 + 1 ≤ j → j < W.heap.size → W'.heap[j]? = W.heap[j]?) : Two w W' p r L R where
  pi := h.pi.same hs (fun k hk => ho k (h.pa k hk) (pv_lt h.pi k hk))
  ri := h.ri.same hs (fun k hk => ho k (h.ra k hk) (pv_lt h.ri k hk))
  pd := h.pd
  rd := h.rd
  pa := h.pa
  ra := h.ra
  po := OwnR.same h.po (fun k hk => by have := OwnR.blt h.po k hk; exact ho k this.1 this.2)
  ro := OwnR.same h.ro (fun k hk => by have := OwnR.blt h.ro k hk; exact ho k this.1 this.2)
  ne := h.ne
theorem two_new {w W3 W4 : World} {p r : PV} {L R : List (List UInt8)} {s : Nat} (hp : p.In W3) (hr : r.In W4) (hpd : p.d = setV L) (hrd : r.d = setV R) (hs : w.heap.size + 1 + 1 + 1 + 1 ≤ s) (hpa : ∀ j, p.at_ j → s ≤ j) (hra : ∀ j, r.at_ j → W3.heap.size ≤ j) (hpo : OwnR strE s W3 (.slice p.ql p.nl p.cl) p.d.l) (hro : OwnR strE W3.heap.size W4 (.slice r.ql r.nl r.cl) r.d.l) (hb : Below W3.heap.size W3 W4) (h3 : s ≤ W3.heap.size) : Two w W4 p r L R where
  pi := pv_keep hp hb
  ri := hr
  pd := hpd
  rd := hrd
  pa := fun j hj => Nat.le_trans hs (hpa j hj)
  ra := fun j hj => Nat.le_trans hs (Nat.le_trans h3 (hra j hj))
  po := by
    have := hpo.keep hb
    rw [hpd, setV_l] at this
    exact this.low hs
  ro := by
    rw [hrd, setV_l] at hro
    exact hro.low (Nat.le_trans hs h3)
  ne := fun j k hj hk => Nat.lt_of_lt_of_le (OwnR.blt hpo j hj).2 (OwnR.blt hro k hk).1
/-- What Move answers. -/
def MovP (a b : V) (l : List UInt8) (w : World) (e : Ending) (w' : World) : Prop :=
  ∃ (p r : PV) (vr : Value), e = .returned (.tuple #[p.agg, r.agg, vr]) ∧ p.In w' ∧ r.In w' ∧ p.d = a ∧ r.d = b ∧ (∀ j, p.at_ j → w.heap.size ≤ j) ∧ (∀ j, r.at_ j → w.heap.size ≤ j) ∧ Ans w.heap.size w' vr l ∧ Below w.heap.size w w'
/-- The answers are laid into their blocks, field by field: in whichever order. -/
theorem mov_five {w W : World} {x y : Array Value} {z0 z1 z2 z3 z4 u0 u1 u2 u3 u4 : Value} (h : MB w W x y #[z0, z1, z2, z3, z4] #[u0, u1, u2, u3, u4]) (p r : PV) (a b : V) (l : List UInt8) (vr : Value) (base : Nat) (hp : p.In W) (hr : r.In W) (hpd : p.d = a) (hrd : r.d = b) (hpa : ∀ j, p.at_ j → w.heap.size + 1 + 1 + 1 + 1 ≤ j) (hra : ∀ j, r.at_ j → w.heap.size + 1 + 1 + 1 + 1 ≤ j) (hA : Ans base W vr l) (hbase : w.heap.size + 1 + 1 + 1 + 1 ≤ base) (W' : World)
    (hW : W' = five (five W (w.heap.size + 1 + 1) (.int .u8 p.k) (.string p.S) (.slice p.ql p.nl p.cl) (.slice p.qh p.nh p.ch) (.slice p.qz p.nz p.cz)) (w.heap.size + 1 + 1 + 1) (.int .u8 r.k) (.string r.S) (.slice r.ql r.nl r.cl) (.slice r.qh r.nh r.ch) (.slice r.qz r.nz r.cz)
      ∨ W' = five (five W (w.heap.size + 1 + 1 + 1) (.int .u8 r.k) (.string r.S) (.slice r.ql r.nl r.cl) (.slice r.qh r.nh r.ch) (.slice r.qz r.nz r.cz)) (w.heap.size + 1 + 1) (.int .u8 p.k) (.string p.S) (.slice p.ql p.nl p.cl) (.slice p.qh p.nh p.ch) (.slice p.qz p.nz p.cz)) :
    W'.heap[w.heap.size + 1 + 1]? = some (.cells #[.int .u8 p.k, .string p.S, .slice p.ql p.nl p.cl, .slice p.qh p.nh p.ch, .slice p.qz p.nz p.cz] 26 (0, 0)) ∧ W'.heap[w.heap.size + 1 + 1 + 1]? = some (.cells #[.int .u8 r.k, .string r.S, .slice r.ql r.nl r.cl, .slice r.qh r.nh r.ch, .slice r.qz r.nz r.cz] 26 (0, 0)) ∧ MovP a b l w (.returned (.tuple #[p.agg, r.agg, vr])) W' := by
  have key : W'.heap[w.heap.size + 1 + 1]? = some (.cells #[.int .u8 p.k, .string p.S, .slice p.ql p.nl p.cl, .slice p.qh p.nh p.ch, .slice p.qz p.nz p.cz] 26 (0, 0)) ∧ W'.heap[w.heap.size + 1 + 1 + 1]? = some (.cells #[.int .u8 r.k, .string r.S, .slice r.ql r.nl r.cl, .slice r.qh r.nh r.ch, .slice r.qz r.nz r.cz] 26 (0, 0)) ∧ W'.heap.size = W.heap.size ∧ (∀ j, w.heap.size + 1 + 1 + 1 + 1 ≤ j → W'.heap[j]? = W.heap[j]?) ∧ Below w.heap.size w W' := by
    rcases hW with rfl | rfl
    · have h7 : (five W (w.heap.size + 1 + 1) (.int .u8 p.k) (.string p.S) (.slice p.ql p.nl p.cl) (.slice p.qh p.nh p.ch) (.slice p.qz p.nz p.cz)).heap[w.heap.size + 1 + 1 + 1]? = _ := (five_other _ _ _ _ _ _ _ _ (by omega)).trans h.b7
      exact ⟨by rw [five_other _ _ _ _ _ _ _ _ (by omega)]; exact val_five h.b6 _ _ _ _ _, val_five h7 _ _ _ _ _, by simp [five], fun j hj => by rw [five_other _ _ _ _ _ _ _ _ (by omega), five_other _ _ _ _ _ _ _ _ (by omega)], five_below (five_below h.bl (by omega) _ _ _ _ _) (by omega) _ _ _ _ _⟩
    · have h6 : (five W (w.heap.size + 1 + 1 + 1) (.int .u8 r.k) (.string r.S) (.slice r.ql r.nl r.cl) (.slice r.qh r.nh r.ch) (.slice r.qz r.nz r.cz)).heap[w.heap.size + 1 + 1]? = _ := (five_other _ _ _ _ _ _ _ _ (by omega)).trans h.b6
      exact ⟨val_five h6 _ _ _ _ _, by rw [five_other _ _ _ _ _ _ _ _ (by omega)]; exact val_five h.b7 _ _ _ _ _, by simp [five], fun j hj => by rw [five_other _ _ _ _ _ _ _ _ (by omega), five_other _ _ _ _ _ _ _ _ (by omega)], five_below (five_below h.bl (by omega) _ _ _ _ _) (by omega) _ _ _ _ _⟩
  obtain ⟨k1, k2, k3, k4, k5⟩ := key
  exact ⟨k1, k2, p, r, vr, rfl, hp.same (by omega) (fun j hj => k4 j (hpa j hj)), hr.same (by omega) (fun j hj => k4 j (hra j hj)), hpd, hrd, fun j hj => by have := hpa j hj; omega, fun j hj => by have := hra j hj; omega, (ans_high hA (by omega) (fun j hj => k4 j (by omega))).base (by omega), k5⟩
theorem set_hk (L : List (List UInt8)) : (setV L).kind = 0 ∨ (setV L).kind = 4 := setV_kind L

theorem mb_cut {w W : World} {x y z u : Array Value} (h : MB w W x y z u) : ∃ w0 : World, w0.heap.size = w.heap.size + 1 + 1 + 1 + 1 ∧ MB w w0 x y z u ∧ Below w0.heap.size w0 W := by
  obtain ⟨w0, hs, hb⟩ := cut_world W (w.heap.size + 1 + 1 + 1 + 1) h.sz
  have hk : ∀ k, k < w.heap.size + 1 + 1 + 1 + 1 → w0.heap[k]? = W.heap[k]? := fun k hk => (hb.block k hk).symm
  refine ⟨w0, hs, ⟨(hk _ (by omega)).trans h.b3, (hk _ (by omega)).trans h.b4, (hk _ (by omega)).trans h.b6, (hk _ (by omega)).trans h.b7, ?_, by omega⟩, by rw [hs]; exact hb⟩
  have h1 := h.bl
  exact ⟨hb.os.symm.trans h1.os, hb.tape.symm.trans h1.tape, hb.output.symm.trans h1.output, by omega, fun k h2 => (hk k (by omega)).trans (h1.block k h2)⟩
theorem two_keep {w W W' : World} {p r : PV} {L R : List (List UInt8)} (h : Two w W p r L R) (hb : Below W.heap.size W W') : Two w W' p r L R := two_same h hb.size (fun j _ hj => hb.block j hj)
theorem two_row {w W w0 : World} {p r : PV} {L R : List (List UInt8)} (h : Two w W p r L R) (h0 : w0.heap.size = w.heap.size + 1 + 1 + 1 + 1) (hb : Below w0.heap.size w0 W) (hu : rises L) : RowI w0 W p.ql p.nl p.cl L := by
  have e : p.d.l = L := by rw [h.pd, setV_l]
  have h1 : p.d.l.length = p.nl := VIn.ll h.pi
  exact ⟨hb, by rw [h0]; exact h.po, by rw [← e]; exact h1, hu, VIn.fl h.pi⟩
theorem two_row' {w W w0 : World} {p r : PV} {L R : List (List UInt8)} (h : Two w W p r L R) (h0 : w0.heap.size = w.heap.size + 1 + 1 + 1 + 1) (hb : Below w0.heap.size w0 W) (hu : rises R) : RowI w0 W r.ql r.nl r.cl R := by
  have e : r.d.l = R := by rw [h.rd, setV_l]
  have h1 : r.d.l.length = r.nl := VIn.ll h.ri
  exact ⟨hb, by rw [h0]; exact h.ro, by rw [← e]; exact h1, hu, VIn.fl h.ri⟩
theorem RowI.drew {w0 w : World} {q : Option Addr} {n c : Nat} {L : List (List UInt8)} (h : RowI w0 w q n c L) : RowI w0 w.drew q n c L := ⟨h.bl.drew, h.ow, h.ln, h.up, h.lm⟩

set_option maxHeartbeats 32000000 in
theorem move_any (p1 p2 : PV) (L R : List (List UInt8)) (X : ByteArray) (w : World) (h1 : p1.In w) (h2 : p2.In w) (e1 : p1.d = setV L) (e2 : p2.d = setV R) (hu1 : rises L) (hu2 : rises R) (hz : R.length + 1 ≤ 1048576) (hg : Gt w) :
    Calls Tryd.prog 12 #[p1.agg, p2.agg, .string X] w (MovP (moveD p1.d p2.d X.data.toList).1 (moveD p1.d p2.d X.data.toList).2.1 (moveD p1.d p2.d X.data.toList).2.2 w) := by
  obtain ⟨ra, rb, rl, hr1, hr2, hr3, HMd⟩ : ∃ (ra rb : V) (rl : List UInt8), (moveD p1.d p2.d X.data.toList).1 = ra ∧ (moveD p1.d p2.d X.data.toList).2.1 = rb ∧ (moveD p1.d p2.d X.data.toList).2.2 = rl ∧ Hid ((X.data.toList ∈ L → setV (remS L [X.data.toList]) = ra ∧ setV (insS R X.data.toList) = rb ∧ int 1 = rl) ∧ (X.data.toList ∉ L → setV L = ra ∧ setV R = rb ∧ int 0 = rl)) := by
    refine ⟨_, _, _, rfl, rfl, rfl, Lib.hid ?_⟩
    rw [e1, e2]
    unfold moveD
    rw [if_pos ⟨setV_kind L, setV_kind R⟩, setV_l, setV_l]
    exact ⟨fun h => by rw [if_pos h]; exact ⟨rfl, rfl, rfl⟩, fun h => by rw [if_neg h]; exact ⟨rfl, rfl, rfl⟩⟩
  rw [hr1, hr2, hr3]
  clear hr1 hr2 hr3
  obtain ⟨k1, S1, ql1, nl1, cl1, qh1, nh1, ch1, qz1, nz1, cz1, d1⟩ := p1
  obtain ⟨k2, S2, ql2, nl2, cl2, qh2, nh2, ch2, qz2, nz2, cz2, d2⟩ := p2
  have CO1 := Lib.hid (fun W (h : Below w.heap.size w W) => own_pv k1 S1 ql1 nl1 cl1 qh1 nh1 ch1 qz1 nz1 cz1 d1 W (pv_keep h1 h))
  have CO2 := Lib.hid (fun W (h : Below w.heap.size w W) => own_pv k2 S2 ql2 nl2 cl2 qh2 nh2 ch2 qz2 nz2 cz2 d2 W (pv_keep h2 h))
  have HE1 := Lib.hid (show d1 = setV L from e1)
  have HE2 := Lib.hid (show d2 = setV R from e2)
  have HG := Lib.hid (fun W (h : Below w.heap.size w W) => hg.keep h)
  have HU := Lib.hid (show rises L ∧ rises R ∧ R.length + 1 ≤ 1048576 from ⟨hu1, hu2, hz⟩)
  have HM := Lib.hid (MB.new w #[.int .u8 k1, .string S1, .slice ql1 nl1 cl1, .slice qh1 nh1 ch1, .slice qz1 nz1 cz1] #[.int .u8 k2, .string S2, .slice ql2 nl2 cl2, .slice qh2 nh2 ch2, .slice qz2 nz2 cz2] #[.int .u8 0, .string ⟨#[]⟩, .slice none 0 0, .slice none 0 0, .slice none 0 0] #[.int .u8 0, .string ⟨#[]⟩, .slice none 0 0, .slice none 0 0, .slice none 0 0])
  show Calls Tryd.prog 12 #[.agg #[.int .u8 k1, .string S1, .slice ql1 nl1 cl1, .slice qh1 nh1 ch1, .slice qz1 nz1 cz1], .agg #[.int .u8 k2, .string S2, .slice ql2 nl2 cl2, .slice qh2 nh2 ch2, .slice qz2 nz2 cz2], .string X] w _
  clear h1 h2 e1 e2 hu1 hu2 hz hg
  go_enter Tryd.func12, Tryd.ntmps12
  go_upto_region 1 with fail
  generalize ((((w.alloc _).alloc _).alloc _).alloc _) = W2 at HM ⊢
  obtain ⟨-, -, a0, a1, a2, a3, a4⟩ := VCells.of HM.out.b3
  obtain ⟨-, -, b0, b1, b2, b3, b4⟩ := VCells.of HM.out.b4
  go_cut [] (fun wx => ∃ (k3 : Int) (S3 : ByteArray) (ql3 : Option Addr) (nl3 cl3 : Nat) (qh3 : Option Addr) (nh3 ch3 : Nat) (qz3 : Option Addr) (nz3 cz3 : Nat) (d3 : V) (k4 : Int) (S4 : ByteArray) (ql4 : Option Addr) (nl4 cl4 : Nat) (qh4 : Option Addr) (nh4 ch4 : Nat) (qz4 : Option Addr) (nz4 cz4 : Nat) (d4 : V), Hid (MB w wx #[.int .u8 k3, .string S3, .slice ql3 nl3 cl3, .slice qh3 nh3 ch3, .slice qz3 nz3 cz3] #[.int .u8 k4, .string S4, .slice ql4 nl4 cl4, .slice qh4 nh4 ch4, .slice qz4 nz4 cz4] #[.int .u8 0, .string ⟨#[]⟩, .slice none 0 0, .slice none 0 0, .slice none 0 0] #[.int .u8 0, .string ⟨#[]⟩, .slice none 0 0, .slice none 0 0, .slice none 0 0]) ∧ Hid (Two w wx ⟨k3, S3, ql3, nl3, cl3, qh3, nh3, ch3, qz3, nz3, cz3, d3⟩ ⟨k4, S4, ql4, nl4, cl4, qh4, nh4, ch4, qz4, nz4, cz4, d4⟩ L R))
  case first =>
    go_region_law (first
      | (go_simp; (with_reducible refine (CO1.out _ (by first | exact HM.out.bl | exact HM.out.bl.drew)).mono ?_); rintro e w3 ⟨p3, rfl, hI, hd, ha, ho, hb⟩; dsimp only [PV.agg]
         obtain ⟨k3, S3, ql3, nl3, cl3, qh3, nh3, ch3, qz3, nz3, cz3, d3⟩ := p3
         dsimp only
         have hb' : Below W2.heap.size W2 w3 := by first | exact hb | exact c_dr hb
         have HM3 := Lib.hid (HM.out.keep hb')
         have HI3 := Lib.hid hI
         have HD3 := Lib.hid (show d3 = d1 from hd)
         have HA3 := Lib.hid (show ∀ j, PV.at_ ⟨k3, S3, ql3, nl3, cl3, qh3, nh3, ch3, qz3, nz3, cz3, d3⟩ j → W2.heap.size ≤ j from ha)
         have HO3 := Lib.hid (show OwnR strE W2.heap.size w3 (.slice ql3 nl3 cl3) d3.l from (show d3 = d1 from hd) ▸ ho)
         have HS3 := Lib.hid hb'.size
         obtain ⟨-, -, c0, c1, c2, c3, c4⟩ := VCells.of HM3.out.b4
         clear hI hd ha ho hb hb')
      | (go_simp; (with_reducible refine (CO2.out _ HM3.out.bl).mono ?_); rintro e w4 ⟨p4, rfl, hI, hd, ha, ho, hb⟩; dsimp only [PV.agg]
         obtain ⟨k4, S4, ql4, nl4, cl4, qh4, nh4, ch4, qz4, nz4, cz4, d4⟩ := p4
         dsimp only
         have HM4 := Lib.hid (HM3.out.keep hb)
         have HT4 := Lib.hid (two_new (w := w) (p := ⟨k3, S3, ql3, nl3, cl3, qh3, nh3, ch3, qz3, nz3, cz3, d3⟩) (r := ⟨k4, S4, ql4, nl4, cl4, qh4, nh4, ch4, qz4, nz4, cz4, d4⟩) HI3.out hI (HD3.out.trans HE1.out) ((show d4 = d2 from hd).trans HE2.out) HM.out.sz HA3.out ha HO3.out ((show d4 = d2 from hd) ▸ ho) hb HS3.out)
         obtain ⟨-, -, s0, s1, s2, s3, s4⟩ := VCells.of HM4.out.b3
         obtain ⟨-, -, t0, t1, t2, t3, t4⟩ := VCells.of HM4.out.b4
         have f0 := (VCells.of HM4.out.b3).frz 0
         have f1 := (VCells.of HM4.out.b3).frz 1
         have f2 := (VCells.of HM4.out.b3).frz 2
         have f3 := (VCells.of HM4.out.b3).frz 3
         have f4 := (VCells.of HM4.out.b3).frz 4
         have g0 := (VCells.of HM4.out.b4).frz 0
         have g1 := (VCells.of HM4.out.b4).frz 1
         have g2 := (VCells.of HM4.out.b4).frz 2
         have g3 := (VCells.of HM4.out.b4).frz 3
         have g4 := (VCells.of HM4.out.b4).frz 4
         clear hI hd ha ho hb))
    all_goals
      have HF := Lib.hid (mb_set HM4.out (.int .u8 k3) (.string S3) (.slice ql3 nl3 cl3) (.slice qh3 nh3 ch3) (.slice qz3 nz3 cz3) (.int .u8 k4) (.string S4) (.slice ql4 nl4 cl4) (.slice qh4 nh4 ch4) (.slice qz4 nz4 cz4))
      have HF' := Lib.hid (mb_set' HM4.out (.int .u8 k3) (.string S3) (.slice ql3 nl3 cl3) (.slice qh3 nh3 ch3) (.slice qz3 nz3 cz3) (.int .u8 k4) (.string S4) (.slice ql4 nl4 cl4) (.slice qh4 nh4 ch4) (.slice qz4 nz4 cz4))
      have HTw := Lib.hid (two_same (W' := five (five w4 w.heap.size (.int .u8 k3) (.string S3) (.slice ql3 nl3 cl3) (.slice qh3 nh3 ch3) (.slice qz3 nz3 cz3)) (w.heap.size + 1) (.int .u8 k4) (.string S4) (.slice ql4 nl4 cl4) (.slice qh4 nh4 ch4) (.slice qz4 nz4 cz4)) HT4.out (by simp [five]) (fun j hj _ => (five_other _ _ _ _ _ _ _ _ (by omega)).trans (five_other _ _ _ _ _ _ _ _ (by omega))))
      have HTw' := Lib.hid (two_same (W' := five (five w4 (w.heap.size + 1) (.int .u8 k4) (.string S4) (.slice ql4 nl4 cl4) (.slice qh4 nh4 ch4) (.slice qz4 nz4 cz4)) w.heap.size (.int .u8 k3) (.string S3) (.slice ql3 nl3 cl3) (.slice qh3 nh3 ch3) (.slice qz3 nz3 cz3)) HT4.out (by simp [five]) (fun j hj _ => (five_other _ _ _ _ _ _ _ _ (by omega)).trans (five_other _ _ _ _ _ _ _ _ (by omega))))
      go_wp2_with fail
      go_meet
      first
        | exact ⟨_, _, _, _, _, _, _, _, _, _, _, _, _, _, _, _, _, _, _, _, _, _, _, _, HF, HTw⟩
        | exact ⟨_, _, _, _, _, _, _, _, _, _, _, _, _, _, _, _, _, _, _, _, _, _, _, _, HF', HTw'⟩
  case rest =>
  obtain ⟨k3, S3, ql3, nl3, cl3, qh3, nh3, ch3, qz3, nz3, cz3, d3, k4, S4, ql4, nl4, cl4, qh4, nh4, ch4, qz4, nz4, cz4, d4, HM5, HT5⟩ := hcut
  rename World => W5
  clear HM CO1 CO2 HE1 HE2 a0 a1 a2 a3 a4 b0 b1 b2 b3 b4
  have hk3 : k3 = 0 ∨ k3 = 4 := by
    have e1 : k3 = (d3.kind : Int) := VIn.ek HT5.out.pi
    have e2 := setV_kind L
    rw [e1, show d3 = setV L from HT5.out.pd]
    omega
  have hk4 : k4 = 0 ∨ k4 = 4 := by
    have e1 : k4 = (d4.kind : Int) := VIn.ek HT5.out.ri
    have e2 := setV_kind R
    rw [e1, show d4 = setV R from HT5.out.rd]
    omega
  have CH1 := Lib.hid (fun W => holds_any k3 (.string S3) (.slice ql3 nl3 cl3) (.slice qh3 nh3 ch3) (.slice qz3 nz3 cz3) W true (Or.inl ⟨hk3, rfl⟩))
  have CH2 := Lib.hid (fun W => holds_any k4 (.string S4) (.slice ql4 nl4 cl4) (.slice qh4 nh4 ch4) (.slice qz4 nz4 cz4) W true (Or.inl ⟨hk4, rfl⟩))
  clear hk3 hk4
  obtain ⟨-, -, a0, a1, a2, a3, a4⟩ := VCells.of HM5.out.b3
  go_wp2_with fail
  clear a0 a1 a2 a3 a4
  with_reducible refine (CH1.out _).mono ?_
  rintro e w6 ⟨rfl, hb⟩
  have HM6 := Lib.hid (HM5.out.keep hb)
  have HT6 := Lib.hid (two_keep HT5.out hb)
  clear hb HM5 HT5 CH1
  obtain ⟨-, -, b0, b1, b2, b3, b4⟩ := VCells.of HM6.out.b4
  go_wp2_with fail
  clear b0 b1 b2 b3 b4
  with_reducible refine (CH2.out _).mono ?_
  rintro e w7 ⟨rfl, hb⟩
  have HM7 := Lib.hid (HM6.out.keep hb)
  have HT7 := Lib.hid (two_keep HT6.out hb)
  clear hb HM6 HT6 CH2
  obtain ⟨w0, hw0, hm0, hb0⟩ := mb_cut HM7.out
  have HW0 := Lib.hid hw0
  have HM0 := Lib.hid hm0
  have HR1 := Lib.hid (two_row HT7.out hw0 hb0 HU.out.1)
  have HR2 := Lib.hid (two_row' HT7.out hw0 hb0 HU.out.2.1)
  have HNe := Lib.hid (fun j k (hj : (Value.slice ql3 nl3 cl3).ownBlock = some j) (hk : (Value.slice ql4 nl4 cl4).ownBlock = some k) => HT7.out.ne j k hj hk)
  clear hw0 hm0 hb0
  dsimp only at HR1 HR2
  have CP := Lib.hid (place_any w0 w7 ql3 nl3 cl3 L X HR1.out)
  have HC : Hid ((hasS L X.data.toList = true ∧ X.data.toList ∈ L) ∨ (hasS L X.data.toList = false ∧ X.data.toList ∉ L)) := Lib.hid (by
    rcases pos_has X.data.toList HU.out.1 with ⟨h1, h2, -⟩ | ⟨h1, h2, -⟩
    · exact Or.inl ⟨h1, h2⟩
    · exact Or.inr ⟨h1, h2⟩)
  generalize posS L X.data.toList = pos at CP
  obtain ⟨-, -, a0, a1, a2, a3, a4⟩ := VCells.of HM7.out.b3
  rcases HC.out with ⟨hc, hin⟩ | ⟨hc, hin⟩
  · rw [hc] at CP
    have HMe := Lib.hid (HMd.out.1 hin)
    obtain ⟨L5, hL5⟩ : ∃ L5, remS L [X.data.toList] = L5 := ⟨_, rfl⟩
    obtain ⟨R6, hR6⟩ : ∃ R6, insS R X.data.toList = R6 := ⟨_, rfl⟩
    rw [hL5, hR6] at HMe
    have HL5 := Lib.hid hL5
    have HR6 := Lib.hid hR6
    clear hL5 hR6
    clear hc hin HC HMd
    go_wp2_with fail
    clear a0 a1 a2 a3 a4
    with_reducible refine CP.out.mono ?_
    rintro e w8 ⟨rfl, hb⟩
    have HR1 := Lib.hid (HR1.out.keep hb)
    have HR2 := Lib.hid (HR2.out.keep hb)
    have HM8 := Lib.hid (HM7.out.keep hb)
    clear hb HM7 HT7 CP
    have C1 := Lib.hid (fun W (h : RowI w0 W ql3 nl3 cl3 L) => without_any w0 W ql3 nl3 cl3 L X h)
    have C3 := Lib.hid (fun W (h : RowI w0 W ql4 nl4 cl4 R) => with_any w0 W ql4 nl4 cl4 R X h (by have := h.ln; have := HU.out.2.2; omega))
    rw [HL5.out] at C1
    rw [HR6.out] at C3
    clear HL5 HR6
    obtain ⟨-, -, a0, a1, a2, a3, a4⟩ := VCells.of HM8.out.b3
    obtain ⟨-, -, b0, b1, b2, b3, b4⟩ := VCells.of HM8.out.b4
    go_wp2_with fail
    go_region_law (first
      | (go_simp; (with_reducible refine (C1.out _ (by first | exact HR1.out | exact HR1.out.drew)).mono ?_); rintro e w9 ⟨q5, n5, c5, rfl, hs⟩; dsimp only
         have hs' : StepR w0 w8 w9 ql3 nl3 cl3 q5 n5 c5 L5 := by first | exact hs | exact ⟨hs.ri, hs.sz, hs.ot, hs.at_⟩
         have HM9 := Lib.hid (HM0.out.keep hs'.ri.bl)
         have HR9 := Lib.hid (RowI.other HR2.out hs'.ri.bl (fun k hk => hs'.ot k (HR2.out.blt k hk).2 (fun e => Nat.lt_irrefl k (HNe.out k k e.symm hk))))
         have HN9 := Lib.hid (show ∀ j k, (Value.slice q5 n5 c5).ownBlock = some j → (Value.slice ql4 nl4 cl4).ownBlock = some k → j ≠ k from fun j k hj hk e => by
           rcases hs'.at_ j hj with h | h
           · have := HNe.out j k h hk
             omega
           · have := (HR2.out.blt k hk).2
             omega)
         have HRo := Lib.hid hs'.ri
         have C2 := Lib.hid (set_any q5 n5 c5 L5 w9 hs'.ri.ln hs'.ri.caps.1 hs'.ri.caps.2.1 hs'.ri.caps.2.2 hs'.ri.rs hs'.ri.lm)
         obtain ⟨-, -, c0, c1, c2, c3, c4⟩ := VCells.of HM9.out.b4
         clear hs hs')
      | (go_simp; (with_reducible refine C2.out.mono ?_); rintro e w10 ⟨p5, rfl, hI, hd, ha, hb⟩; dsimp only [PV.agg]
         obtain ⟨k5, S5, ql5, nl5, cl5, qh5, nh5, ch5, qz5, nz5, cz5, d5⟩ := p5
         dsimp only
         have HM10 := Lib.hid (HM9.out.keep hb)
         have HR10 := Lib.hid (HR9.out.keep hb)
         have HI5 := Lib.hid hI
         have HE5 := Lib.hid (show d5 = setV L5 from hd)
         have HA5 := Lib.hid (show ∀ j, PV.at_ ⟨k5, S5, ql5, nl5, cl5, qh5, nh5, ch5, qz5, nz5, cz5, d5⟩ j → (Value.slice q5 n5 c5).ownBlock = some j ∧ w0.heap.size ≤ j from fun j hj => by
           obtain ⟨a, e, rfl⟩ := ha j hj
           have h1 := HRo.out.qlt a e
           subst e
           exact ⟨rfl, h1⟩)
         obtain ⟨-, -, e0, e1, e2, e3, e4⟩ := VCells.of HM10.out.b4
         clear hI hd ha hb)
      | (go_simp; (with_reducible refine (C3.out _ HR10.out).mono ?_); rintro e w11 ⟨q6, n6, c6, rfl, hs⟩; dsimp only
         have HM11 := Lib.hid (HM0.out.keep hs.ri.bl)
         have HI11 := Lib.hid (PV.In.same HI5.out hs.sz (fun j hj => hs.ot j (pv_lt HI5.out j hj) (fun e => HN9.out j j (HA5.out j hj).1 e.symm rfl)))
         have HRp := Lib.hid hs.ri
         have C4 := Lib.hid (set_any q6 n6 c6 R6 w11 hs.ri.ln hs.ri.caps.1 hs.ri.caps.2.1 hs.ri.caps.2.2 hs.ri.rs hs.ri.lm)
         clear hs)
      | (go_simp; (with_reducible refine C4.out.mono ?_); rintro e w12 ⟨p6, rfl, hI, hd, ha, hb⟩; dsimp only [PV.agg]
         obtain ⟨k6, S6, ql6, nl6, cl6, qh6, nh6, ch6, qz6, nz6, cz6, d6⟩ := p6
         dsimp only
         have HM12 := Lib.hid (HM11.out.keep hb)
         have HI12 := Lib.hid (pv_keep HI11.out hb)
         have HI6 := Lib.hid hI
         have HE6 := Lib.hid (show d6 = setV R6 from hd)
         have HA6 := Lib.hid (show ∀ j, PV.at_ ⟨k6, S6, ql6, nl6, cl6, qh6, nh6, ch6, qz6, nz6, cz6, d6⟩ j → w0.heap.size ≤ j from fun j hj => by
           obtain ⟨a, e, rfl⟩ := ha j hj
           exact HRp.out.qlt a e)
         have C5 := Lib.hid (int_any 1 w12 (by decide) (by decide) (HG.out w12 HM12.out.bl))
         clear hI hd ha hb)
      | (go_simp; (with_reducible refine C5.out.mono ?_); rintro e w13 ⟨vr, rfl, hA, hb⟩; dsimp only
         have HM13 := Lib.hid (HM12.out.keep hb)
         have HI13 := Lib.hid (pv_keep HI12.out hb)
         have HJ13 := Lib.hid (pv_keep HI6.out hb)
         have HA13 := Lib.hid hA
         have HS12 := Lib.hid HM12.out.sz
         obtain ⟨-, -, s0, s1, s2, s3, s4⟩ := VCells.of HM13.out.b6
         obtain ⟨-, -, t0, t1, t2, t3, t4⟩ := VCells.of HM13.out.b7
         have f0 := (VCells.of HM13.out.b6).frz 0
         have f1 := (VCells.of HM13.out.b6).frz 1
         have f2 := (VCells.of HM13.out.b6).frz 2
         have f3 := (VCells.of HM13.out.b6).frz 3
         have f4 := (VCells.of HM13.out.b6).frz 4
         have g0 := (VCells.of HM13.out.b7).frz 0
         have g1 := (VCells.of HM13.out.b7).frz 1
         have g2 := (VCells.of HM13.out.b7).frz 2
         have g3 := (VCells.of HM13.out.b7).frz 3
         have g4 := (VCells.of HM13.out.b7).frz 4
         clear hA hb))
    all_goals
      have HX := Lib.hid (fun W' hW => mov_five HM13.out ⟨k5, S5, ql5, nl5, cl5, qh5, nh5, ch5, qz5, nz5, cz5, d5⟩ ⟨k6, S6, ql6, nl6, cl6, qh6, nh6, ch6, qz6, nz6, cz6, d6⟩ ra rb rl vr w12.heap.size HI13.out HJ13.out (Eq.trans HE5.out HMe.out.1) (Eq.trans HE6.out HMe.out.2.1) (fun j hj => by have := (HA5.out j hj).2; have := HW0.out; omega) (fun j hj => by have := HA6.out j hj; have := HW0.out; omega) (by have h := HA13.out; rw [HMe.out.2.2] at h; exact h) HS12.out W' hW)
      have HCs5 := Lib.hid (show (Tryd.prog.info? 26).map (·.size) = some (#[.int .u8 k5, .string S5, .slice ql5 nl5 cl5, .slice qh5 nh5 ch5, .slice qz5 nz5 cz5] : Array Value).size from val_size)
      have HCs6 := Lib.hid (show (Tryd.prog.info? 26).map (·.size) = some (#[.int .u8 k6, .string S6, .slice ql6 nl6 cl6, .slice qh6 nh6 ch6, .slice qz6 nz6 cz6] : Array Value).size from val_size)
      go_wp2_with fail
      first
        | exact bodyPost_ret (results_two_slot rfl _ _ (w.heap.size + 1 + 1) (w.heap.size + 1 + 1 + 1) 26 26 #[.int .u8 k5, .string S5, .slice ql5 nl5 cl5, .slice qh5 nh5 ch5, .slice qz5 nz5 cz5] #[.int .u8 k6, .string S6, .slice ql6 nl6 cl6, .slice qh6 nh6 ch6, .slice qz6 nz6 cz6] (0, 0) (0, 0) _ vr rfl (HX.out _ (Or.inl rfl)).1 rfl (HX.out _ (Or.inl rfl)).2.1 Tryd.underlying26 rfl HCs5.out HCs6.out rfl) rfl (HX.out _ (Or.inl rfl)).2.2
        | exact bodyPost_ret (results_two_slot rfl _ _ (w.heap.size + 1 + 1) (w.heap.size + 1 + 1 + 1) 26 26 #[.int .u8 k5, .string S5, .slice ql5 nl5 cl5, .slice qh5 nh5 ch5, .slice qz5 nz5 cz5] #[.int .u8 k6, .string S6, .slice ql6 nl6 cl6, .slice qh6 nh6 ch6, .slice qz6 nz6 cz6] (0, 0) (0, 0) _ vr rfl (HX.out _ (Or.inr rfl)).1 rfl (HX.out _ (Or.inr rfl)).2.1 Tryd.underlying26 rfl HCs5.out HCs6.out rfl) rfl (HX.out _ (Or.inr rfl)).2.2
  · rw [hc] at CP
    have HMe := Lib.hid (HMd.out.2 hin)
    clear hc hin HC HMd HR1 HR2 HNe
    go_wp2_with fail
    clear a0 a1 a2 a3 a4
    with_reducible refine CP.out.mono ?_
    rintro e w8 ⟨rfl, hb⟩
    have HT8 := Lib.hid (two_keep HT7.out hb)
    have HM8 := Lib.hid (HM7.out.keep hb)
    clear hb HM7 HT7 CP
    have C5 := Lib.hid (fun W (h : Below w.heap.size w W) => int_any 0 W (by decide) (by decide) (HG.out W h))
    obtain ⟨-, -, a0, a1, a2, a3, a4⟩ := VCells.of HM8.out.b3
    obtain ⟨-, -, b0, b1, b2, b3, b4⟩ := VCells.of HM8.out.b4
    go_wp2_with fail
    go_region_law (first
      | (go_simp; (with_reducible refine (C5.out _ (by first | exact HM8.out.bl | exact HM8.out.bl.drew)).mono ?_); rintro e w13 ⟨vr, rfl, hA, hb⟩; dsimp only
         have hb' : Below w8.heap.size w8 w13 := by first | exact hb | exact c_dr hb
         have HM13 := Lib.hid (HM8.out.keep hb')
         have HT13 := Lib.hid (two_keep HT8.out hb')
         have HA13 := Lib.hid (show Ans w8.heap.size w13 vr _ from hA)
         have HS12 := Lib.hid HM8.out.sz
         obtain ⟨-, -, c0, c1, c2, c3, c4⟩ := VCells.of HM13.out.b3
         obtain ⟨-, -, e0, e1, e2, e3, e4⟩ := VCells.of HM13.out.b4
         obtain ⟨-, -, s0, s1, s2, s3, s4⟩ := VCells.of HM13.out.b6
         obtain ⟨-, -, t0, t1, t2, t3, t4⟩ := VCells.of HM13.out.b7
         have f0 := (VCells.of HM13.out.b6).frz 0
         have f1 := (VCells.of HM13.out.b6).frz 1
         have f2 := (VCells.of HM13.out.b6).frz 2
         have f3 := (VCells.of HM13.out.b6).frz 3
         have f4 := (VCells.of HM13.out.b6).frz 4
         have g0 := (VCells.of HM13.out.b7).frz 0
         have g1 := (VCells.of HM13.out.b7).frz 1
         have g2 := (VCells.of HM13.out.b7).frz 2
         have g3 := (VCells.of HM13.out.b7).frz 3
         have g4 := (VCells.of HM13.out.b7).frz 4
         clear hA hb hb'))
    all_goals
      have HX := Lib.hid (fun W' hW => mov_five HM13.out ⟨k3, S3, ql3, nl3, cl3, qh3, nh3, ch3, qz3, nz3, cz3, d3⟩ ⟨k4, S4, ql4, nl4, cl4, qh4, nh4, ch4, qz4, nz4, cz4, d4⟩ ra rb rl vr w8.heap.size HT13.out.pi HT13.out.ri (Eq.trans HT13.out.pd HMe.out.1) (Eq.trans HT13.out.rd HMe.out.2.1) HT13.out.pa HT13.out.ra (by have h := HA13.out; rw [HMe.out.2.2] at h; exact h) HS12.out W' hW)
      have HCs5 := Lib.hid (show (Tryd.prog.info? 26).map (·.size) = some (#[.int .u8 k3, .string S3, .slice ql3 nl3 cl3, .slice qh3 nh3 ch3, .slice qz3 nz3 cz3] : Array Value).size from val_size)
      have HCs6 := Lib.hid (show (Tryd.prog.info? 26).map (·.size) = some (#[.int .u8 k4, .string S4, .slice ql4 nl4 cl4, .slice qh4 nh4 ch4, .slice qz4 nz4 cz4] : Array Value).size from val_size)
      go_wp2_with fail
      first
        | exact bodyPost_ret (results_two_slot rfl _ _ (w.heap.size + 1 + 1) (w.heap.size + 1 + 1 + 1) 26 26 #[.int .u8 k3, .string S3, .slice ql3 nl3 cl3, .slice qh3 nh3 ch3, .slice qz3 nz3 cz3] #[.int .u8 k4, .string S4, .slice ql4 nl4 cl4, .slice qh4 nh4 ch4, .slice qz4 nz4 cz4] (0, 0) (0, 0) _ vr rfl (HX.out _ (Or.inl rfl)).1 rfl (HX.out _ (Or.inl rfl)).2.1 Tryd.underlying26 rfl HCs5.out HCs6.out rfl) rfl (HX.out _ (Or.inl rfl)).2.2
        | exact bodyPost_ret (results_two_slot rfl _ _ (w.heap.size + 1 + 1) (w.heap.size + 1 + 1 + 1) 26 26 #[.int .u8 k3, .string S3, .slice ql3 nl3 cl3, .slice qh3 nh3 ch3, .slice qz3 nz3 cz3] #[.int .u8 k4, .string S4, .slice ql4 nl4 cl4, .slice qh4 nh4 ch4, .slice qz4 nz4 cz4] (0, 0) (0, 0) _ vr rfl (HX.out _ (Or.inr rfl)).1 rfl (HX.out _ (Or.inr rfl)).2.1 Tryd.underlying26 rfl HCs5.out HCs6.out rfl) rfl (HX.out _ (Or.inr rfl)).2.2

end Go.Proofs.YtmdkegamfjkfbaaDoor.SetM
