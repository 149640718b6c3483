/-
  What a law's 'read' answers, and that its rows lie in new memory: so that they can be put behind a row that was there.
-/
import Derived.Test.YtadffjmpkeaikaaDoorFrameRead
namespace Go.Proofs.YtadffjmpkeaikaaDoor.FrameL
open Go.RowKit Kit BytesIn ReplyMath ReplyT NumMath NumL FrameMath FrameT FrameM
open Go.Sort (grow)
set_option linter.unusedVariables false
set_option maxRecDepth 100000

/-- The reader's blocks, and all that were there. -/
def Ol (F : Nat → Prop) (B : Nat) : Nat → Prop := fun k => F k ∨ k < B
theorem Ol.turn {F F' : Nat → Prop} {w w' : World} (h : Turn F w w' F') (B : Nat) : Turn (Ol F B) w w' (Ol F' B) :=
  ⟨h.os, h.tape, h.output, h.size, fun k hk hf => h.block k hk (fun h' => hf (Or.inl h')), fun k hk => by
    rcases hk with hk | hk
    · rcases h.foot k hk with h1 | h1
      · exact Or.inl (Or.inl h1)
      · exact Or.inr h1
    · exact Or.inl (Or.inr hk)⟩
theorem Ol.lt {F : Nat → Prop} {w : World} {B : Nat} (h : ∀ k, F k → k < w.heap.size) (hB : B ≤ w.heap.size) : ∀ k, Ol F B k → k < w.heap.size := fun k hk => by
  rcases hk with hk | hk
  · exact h k hk
  · omega
theorem okS_ol {F : Nat → Prop} {w : World} {u : Value} {l : List (List UInt8)} {b B : Nat} (h : OkS F w u l) (ha : AnsS b w u l) (hB : B ≤ b) : OkS (Ol F B) w u l := by
  obtain ⟨q, c, hv, ⟨hS, hoff⟩, h1⟩ := h
  obtain ⟨q', c', hv', -, hge, -⟩ := ha
  refine ⟨q, c, hv, ⟨hS, fun a hq h0 hf => ?_⟩, h1⟩
  rcases hf with hf | hf
  · exact hoff a hq h0 hf
  · rw [hv] at hv'
    injection hv' with e1
    rw [hq] at e1
    have := hge a e1.symm
    omega
/-- A turn that has left the reader's blocks alone since. -/
theorem turn_since {F0 F : Nat → Prop} {w0 w w' : World} {B : Nat} (h : Turn F0 w0 w F) (h2 : Turn (Ol F0 B) w0 w' (Ol F B)) (hk : ∀ k, Ol F B k → w'.heap[k]? = w.heap[k]?) (hB : w0.heap.size ≤ B) : Turn F0 w0 w' F :=
  ⟨h2.os, h2.tape, h2.output, h2.size, fun k hk' hf => (hk k (Or.inr (by omega))).trans (h.block k hk' hf), h.foot⟩
def Read2P (F : Nat → Prop) (a : Addr) (R : List (List (List UInt8))) (t : List UInt8) (b : Bool) (w : World) (e : Ending) (w' : World) : Prop :=
  ∃ ad c F', e = .returned (.tuple #[.slice (some ad) R.length c, .int .i64 (if b = true then 10 else 0)]) ∧ OwnT (Ol F' w.heap.size) w.heap.size w' (.slice (some ad) R.length c) R ∧ Rd w' F' (.pointer (some a)) t b ∧ Turn F w w' F'

set_option maxHeartbeats 2000000 in
theorem read2_any (w : World) (F : Nat → Prop) (a : Addr) (l : List UInt8) (bad : Bool) (R : List (List (List UInt8))) (t : List UInt8) (b : Bool) (N : Nat) (h : Rd w F (.pointer (some a)) l bad) (hr : ReadsB bad l R t b) (hN : R.length < N) (hN2 : N ≤ 65536) (hz : l.length ≤ 65536) (B : Nat) (hB : B ≤ w.heap.size) (hFB : ∀ k, F k → B ≤ k) (hgk : ∀ W, Below B w W → Gd W) :
    Calls Tryd.prog 19 #[.pointer (some a), .int .i64 (N : Int)] w (Read2P F a R t b w) := by
  have HB0 := Lib.hid (below1 w (.cells #[] 23))
  have HR0 := Lib.hid (rd_below h HB0.out)
  have HO0 := Lib.hid (OwnT.new (F := Ol F w.heap.size) (base := w.heap.size) (w := w) (Nat.le_refl _) (Ol.lt (rd_lt h) (Nat.le_refl _)))
  have HRd := Lib.hid hr
  have HFB := Lib.hid hFB
  have HGk := Lib.hid hgk
  clear h hr hFB hgk
  go_enter Tryd.func19, Tryd.ntmps19
  go_wp2_with fail
  go_loopw [6] (fun v wr => ∃ (Q R' : List (List (List UInt8))) (l' : List UInt8) (bad' : Bool) (F' : Nat → Prop) (q : Addr) (c m : Nat), v = .slice (some q) m c ∧ Hid (m = Q.length) ∧ Hid (OwnT (Ol F' w.heap.size) w.heap.size wr (.slice (some q) m c) Q) ∧ Hid (R = Q ++ R') ∧ Hid (ReadsB bad' l' R' t b) ∧ Hid (Rd wr F' (.pointer (some a)) l' bad') ∧ Hid (l'.length ≤ 65536) ∧ Hid (Turn F w wr F')) (fun v _ => R.length - vlen v)
  case atStart => exact ⟨[], R, l, bad, F, _, _, 0, rfl, Lib.hid rfl, HO0, Lib.hid rfl, HRd, HR0, Lib.hid hz, Lib.hid (Turn.of_below HB0.out)⟩
  case round =>
    obtain ⟨Q, R', l', bad', F', q, c, m, rfl, HM, HO, HR, HRs, HRdr, HL, HT⟩ := hrel
    have hmN : m < N := by
      have h1 := congrArg List.length HR.out
      rw [List.length_append] at h1
      have := HM.out
      omega
    have d1 : decide ((m : Int) < (N : Int)) = true := decide_eq_true (by omega)
    have hGw := HGk.out wr (HT.out.below HFB.out hB)
    rcases firstB_of HRs.out with ⟨h1, h2⟩ | ⟨r, R'', l'', h1, h2, h3⟩
    · subst h1
      have C : Hid (Calls Tryd.prog 23 #[.pointer (some a)] wr (fun e w' => ∃ F2 u, e = .returned (.tuple #[u, .bool false, .int .i64 (if b = true then 10 else 0)]) ∧ AnsS wr.heap.size w' u [] ∧ OkS F2 w' u [] ∧ Rd w' F2 (.pointer (some a)) t b ∧ Turn F' wr w' F2)) := Lib.hid (next_rd wr F' a l' bad' none t b HRdr.out h2 HL.out hGw)
      obtain ⟨er, her⟩ : ∃ er : Int, er = if b = true then 10 else 0 := ⟨_, rfl⟩
      rw [← her] at C
      have HEr := Lib.hid her
      clear h2 hGw her
      go_wp2_with fail
      refine (show Calls _ _ _ _ _ from C.out).mono ?_
      rintro e w2 ⟨F2, u, rfl, hA, hO2, hRd2, hT2⟩
      have HX := Lib.hid (show OwnT (Ol F2 w.heap.size) w.heap.size w2 (.slice (some q) R.length c) R ∧ m = R.length by
        have h1 := HR.out
        rw [List.append_nil] at h1
        have h2 := HO.out.turn (Ol.turn hT2 w.heap.size)
        rw [HM.out] at h2
        rw [h1]
        exact ⟨h2, HM.out⟩)
      clear hA hO2
      go_wp2_with fail
      go_ret2
      refine ⟨q, c, F2, ?_, HX.out.1, hRd2, HT.out.trans hT2⟩
      rw [← HEr.out, ← HX.out.2]
      rfl
    · have C : Hid (Calls Tryd.prog 23 #[.pointer (some a)] wr (fun e w' => ∃ F2 u, e = .returned (.tuple #[u, .bool true, .int .i64 0]) ∧ AnsS wr.heap.size w' u r ∧ OkS F2 w' u r ∧ Rd w' F2 (.pointer (some a)) l'' false ∧ Turn F' wr w' F2)) := Lib.hid (next_rd wr F' a l' bad' (some r) l'' false HRdr.out h2 HL.out hGw)
      have HL2 := Lib.hid (show l''.length ≤ 65536 from Nat.le_trans h2.len HL.out)
      have HR2 := Lib.hid (show R = (Q ++ [r]) ++ R'' by rw [HR.out, h1]; simp)
      have HRs2 := Lib.hid h3
      clear h1 h2 h3 hGw
      go_wp2_with fail
      refine (show Calls _ _ _ _ _ from C.out).mono ?_
      rintro e w2 ⟨F2, u, rfl, hA, hO2, hRd2, hT2⟩
      obtain ⟨qu, cu, hu, -⟩ := id hA
      obtain ⟨nu, hnu⟩ : ∃ nu, nu = r.length := ⟨_, rfl⟩
      rw [← hnu] at hu
      subst hu
      have hal := below1 w2 (.cells #[.slice qu nu cu] 23)
      have HTr := Lib.hid ((HT.out.trans hT2).trans (Turn.of_below (F := F2) hal))
      have HTq := Lib.hid (Ol.turn HTr.out w.heap.size)
      have HRq := Lib.hid (rd_below hRd2 hal)
      have HOq := Lib.hid ((HO.out.turn (Ol.turn hT2 w.heap.size)).keep hal)
      have HFq := Lib.hid (Ol.lt (rd_lt HRq.out) HTr.out.size)
      have HUq := Lib.hid ((okS_ol hO2 hA HT.out.size).turn (Turn.of_below (F := Ol F2 w.heap.size) hal))
      have HAp := Lib.hid (show ∀ p n c', Value.slice qu nu cu = .slice (some p) n c' → 0 < n → (Value.slice (some q) m c).ownBlock ≠ some p.block from fun p n c' hu _ he => by
        obtain ⟨qq, cc, hq, -, hge, -⟩ := hA
        rw [hu] at hq
        injection hq with e1 e2 e3
        have h4 := hge p e1.symm
        have h5 := ownT_lt HO.out _ he
        omega)
      have HOne := Lib.hid hO2.one
      have HSz := Lib.hid (show Q.length + 1 ≤ 1048576 by have := HM.out; omega)
      clear hA hO2 hRd2 hT2 hal hnu
      go_wp2_with (at_builtin; refine wpList_append_t (F0 := Ol F w.heap.size) (w0 := w) rfl (.tmp 25) (.tmp 27) rfl (.slice (some q) m c) Q rfl HOq.out HTq.out HFq.out ⟨w2.heap.size, 0, none⟩ 1 1 [.slice qu nu cu] [r] rfl rfl rfl (one_cell w2 (.slice qu nu cu) _) (fun j hj => (match j, hj with | 0, _ => ⟨.slice qu nu cu, rfl, HUq.out, HAp.out⟩ | j + 1, hj => absurd hj (by simp))) (fun x hx => by simp at hx; subst hx; exact HOne.out) HSz.out _ rfl ?_; intro v3 w3 hO3 hT3 hk3 hs3)
      have HR3 := Lib.hid (rd_keep HRq.out (fun k hk => hk3 k (Or.inl hk)) hs3)
      have HT3 := Lib.hid (turn_since HTr.out hT3 hk3 (Nat.le_refl _))
      obtain ⟨q3', c3, hv3, hts3, -⟩ := hO3.ts
      obtain ⟨b3, o3, rfl, -⟩ := hts3 (by simp)
      subst hv3
      obtain ⟨m3, hm3⟩ : ∃ m3, m3 = (Q ++ [r]).length := ⟨_, rfl⟩
      rw [← hm3] at hO3 ⊢
      have hmm : m3 = m + 1 := by rw [hm3, List.length_append, ← HM.out]; rfl
      have hlt : m < R.length := by
        have h1 := congrArg List.length HR2.out
        rw [List.length_append, ← hm3] at h1
        omega
      have HO3 := Lib.hid hO3
      have HM3 := Lib.hid hm3
      clear hk3 hs3 hO3 hT3 hm3 hts3
      go_roundw
      case rel => exact ⟨Q ++ [r], R'', l'', false, F2, _, c3, m3, rfl, HM3, HO3, HR2, HRs2, HR3, HL2, HT3⟩
      case measure => simp only [vlen_slice]; omega

/-- The cells of a row of rows. -/
theorem ownT_cells {F : Nat → Prop} {base : Nat} {w : World} {ad : Addr} {n c : Nat} {L : List (List (List UInt8))} (h : OwnT F base w (.slice (some ad) n c) L) (hn : L.length = n) :
    ∃ us : List Value, us.length = n ∧ (∀ j u, us[j]? = some u → w.cell? (ad.add j) = some u) ∧ ∀ j (hj : j < L.length), ∃ u, us[j]? = some u ∧ OkS F w u L[j] := by
  subst hn
  obtain ⟨hg, vs, h, hvs⟩ := h
  refine ⟨vs, by have := h.1; omega, fun j u hu => ?_, fun j hj => ?_⟩
  · have hj : j < vs.length := (List.getElem?_eq_some_iff.1 hu).1
    rcases id h.2 with ⟨e, -⟩ | ⟨g, cap, cur, e, hgb, hh, -⟩
    · injection e with e
      cases e
    · injection e with e1 e2 e3
      injection e1 with e1
      subst e1
      have hvl : vs.length = L.length := by have := h.1; omega
      have h1 := World.ownsRow.cellAt h j (by omega)
      rw [Addr.add_lit, Nat.zero_add]
      rw [h1]
      exact hu
  · obtain ⟨u, hu, hok, -⟩ := hvs j hj
    exact ⟨u, hu, hok⟩
theorem ownT_weak {F G : Nat → Prop} {base : Nat} {w : World} {v : Value} {L : List (List (List UInt8))} (h : OwnT F base w v L) (hFG : ∀ k, G k → F k) : OwnT G base w v L := by
  obtain ⟨hg, vs, h, hvs⟩ := h
  refine ⟨fun g hgv hG => hg g hgv (hFG g hG), vs, h, fun j hj => ?_⟩
  obtain ⟨u, hu, ⟨q, c, hv, ⟨hS, hoff⟩, h1⟩, ha⟩ := hvs j hj
  exact ⟨u, hu, ⟨q, c, hv, ⟨hS, fun a hq h0 hf => hoff a hq h0 (hFG _ hf)⟩, h1⟩, ha⟩
/-- Rows that were made new, for a row that was there. -/
theorem rows_new {F : Nat → Prop} {w : World} {B : Nat} {us : List Value} {R : List (List (List UInt8))} {v : Value} (h : ∀ j (hj : j < R.length), ∃ u, us[j]? = some u ∧ OkS (Ol F B) w u R[j]) (hv : ∀ k, v.ownBlock = some k → k < B) :
    ∀ j (hj : j < R.length), ∃ u, us[j]? = some u ∧ OkS F w u R[j] ∧ ∀ p n c, u = .slice (some p) n c → 0 < n → v.ownBlock ≠ some p.block := fun j hj => by
  obtain ⟨u, hu, q, c, hv', ⟨hS, hoff⟩, h1⟩ := h j hj
  refine ⟨u, hu, ⟨q, c, hv', ⟨hS, fun a hq h0 hf => hoff a hq h0 (Or.inl hf)⟩, h1⟩, fun p n c' e h0 he => ?_⟩
  rw [hv'] at e
  injection e with e1 e2 e3
  exact hoff p e1 (by omega) (Or.inr (hv _ he))
theorem rows_one {F : Nat → Prop} {w : World} {us : List Value} {R : List (List (List UInt8))} (hl : us.length = R.length) (h : ∀ j (hj : j < R.length), ∃ u, us[j]? = some u ∧ OkS F w u R[j]) : ∀ u ∈ us, u.oneCell' = true := fun u hu => by
  obtain ⟨j, hj, rfl⟩ := List.getElem_of_mem hu
  obtain ⟨x, hx, hok⟩ := h j (by omega)
  rw [List.getElem?_eq_getElem hj] at hx
  injection hx with hx
  rw [hx]
  exact hok.one

end Go.Proofs.YtadffjmpkeaikaaDoor.FrameL
