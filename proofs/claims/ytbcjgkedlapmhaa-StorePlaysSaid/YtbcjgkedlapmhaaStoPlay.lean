/-
  The landed store and the document's own, side by side.
-/
import Derived.Test.YtbcjgkedlapmhaaOpRow
import Derived.Test.YtbcjgkedlapmhaaRefSto9
namespace Go.Proofs.Ytbcjgkedlapmhaa.StoL
open Go.RowKit Kit StrT RowG BOrd ValT StoT StoM MapF RefY
set_option linter.unusedVariables false
set_option maxRecDepth 100000

def YK (y : Nat) : StK := fun w D F R => YSt w y D F R
theorem yk_stb (y : Nat) : Stb (YK y) := by
  refine ⟨fun h k hk => h.lt k hk, fun h k hk => ?_, fun h hs hk => h.same hs hk⟩
  obtain ⟨ql, nl, cl, qc, nc, cc, P, Q, h1, h2, rfl⟩ := h
  exact (h2.rf k hk).2
section
variable {A : StK} {w0 w : World} {X : Nat → Prop} {D E : Sd V} {y : Nat}
theorem uput (SA : Stb A) (H : Tw A (YK y) w0 X w D E) (hn : E.n ≤ 100000) (K : ByteArray) (k : List UInt8) (hK : KeyIs K k) (p : PV) (hp : p.In w) (hx : ∀ k, p.at_ k → X k) : Calls Try.prog 20 #[.pointer (some ⟨y, 0, none⟩), .string K, p.agg] w fun e w' => e = .returned (.tuple #[]) ∧ Tw A (YK y) w0 X w' D (putAny k p.d E) ∧ Keep X w w' :=
  H.put2 SA (yk_stb y) p.at_ hx (fun F R h hR => yput K k p p.at_ hK.eq h hn hp (fun _ h => h) hR)
theorem uget (SA : Stb A) (H : Tw A (YK y) w0 X w D E) (hn : E.n ≤ 100000) (K : ByteArray) (k : List UInt8) (hK : KeyIs K k) : Calls Try.prog 14 #[.pointer (some ⟨y, 0, none⟩), .string K] w (GotV A (YK y) w0 X w D (getS k E) ((getV k E.L).getD v0)) :=
  H.get2 SA (yk_stb y) (fun F R h => yget K k hK.eq h hn)
theorem udue (SA : Stb A) (H : Tw A (YK y) w0 X w D E) (hn : E.n ≤ 100000) (K : ByteArray) (k : List UInt8) (hK : KeyIs K k) : Calls Try.prog 24 #[.pointer (some ⟨y, 0, none⟩), .string K] w fun e w' => e = .returned (.tuple #[.int .i64 (dueV k E.L).1, .bool (dueV k E.L).2]) ∧ Tw A (YK y) w0 X w' D (getS k E) ∧ Keep X w w' :=
  H.do2 SA (yk_stb y) (fun F R h => ydue K k hK.eq h hn)
theorem usetdue (SA : Stb A) (H : Tw A (YK y) w0 X w D E) (hn : E.n ≤ 100000) (K : ByteArray) (k : List UInt8) (a : Int) (on : Bool) (hK : KeyIs K k) : Calls Try.prog 16 #[.pointer (some ⟨y, 0, none⟩), .string K, .int .i64 a, .bool on] w fun e w' => e = .returned (.bool (setDueB k E)) ∧ Tw A (YK y) w0 X w' D (setDueS k a on E) ∧ Keep X w w' :=
  H.do2 SA (yk_stb y) (fun F R h => ysetdue K k a on hK.eq h hn)
theorem utick (SA : Stb A) (H : Tw A (YK y) w0 X w D E) (hn : E.n ≤ 100000) (m : Int) (hm0 : -9223372036854775808 ≤ m) (hm1 : m ≤ 9223372036854775807) : Calls Try.prog 18 #[.pointer (some ⟨y, 0, none⟩), .int .i64 m] w fun e w' => e = .returned (.tuple #[]) ∧ Tw A (YK y) w0 X w' D (tickS m E) ∧ Keep X w w' :=
  H.do2 SA (yk_stb y) (fun F R h => ytick m hm0 hm1 h hn)
theorem upurge (SA : Stb A) (H : Tw A (YK y) w0 X w D E) (hn : E.n ≤ 100000) : Calls Try.prog 22 #[.pointer (some ⟨y, 0, none⟩)] w fun e w' => e = .returned (.int .i64 (purgeN E : Int)) ∧ Tw A (YK y) w0 X w' D (purgeS E) ∧ Keep X w w' :=
  H.do2 SA (yk_stb y) (fun F R h => ypurge h hn)
theorem uversion (SA : Stb A) (H : Tw A (YK y) w0 X w D E) (hn : E.n ≤ 100000) (K : ByteArray) (k : List UInt8) (hK : KeyIs K k) : Calls Try.prog 32 #[.pointer (some ⟨y, 0, none⟩), .string K] w fun e w' => e = .returned (.int .i64 (E.C k : Int)) ∧ Tw A (YK y) w0 X w' D E ∧ Keep X w w' :=
  H.do2 SA (yk_stb y) (fun F R h => (yversion K k hK.eq h hn).mono fun e w' ⟨h1, h2⟩ => ⟨h1, by subst h2; exact ⟨F, R, h, Off.refl _ _, Gr.refl _ _, Gr.refl _ _⟩⟩)
theorem ukeys (SA : Stb A) (H : Tw A (YK y) w0 X w D E) (hn : E.n ≤ 100000) : Calls Try.prog 28 #[.pointer (some ⟨y, 0, none⟩)] w (GotL A (YK y) w0 X w D E (keysS E.L)) :=
  H.list2 SA (yk_stb y) (fun F R h => (ykeys h hn).mono fun e w' ⟨v, he, ⟨q, c, hv, hR, hq, h1, h2, h3⟩, hb⟩ => by
    subst he hv
    refine ⟨q, c, rfl, hR, h1, h2, h3, F, R, h.same hb.size (fun k hk => hb.block k (h.lt k hk)), Off.of_below hb, Gr.refl _ _, Gr.refl _ _, fun h0 a ha => ?_⟩
    obtain ⟨b, off, e, hlt, -⟩ := hR h0
    rw [ha] at e
    injection e with e
    subst e
    exact ⟨hq _ ha, hlt, fun hF => absurd (h.lt _ (Or.inl hF)) (Nat.not_lt.2 (hq _ ha))⟩)
/-- The document's own store, and where its row lies. -/
def YQ (y : Nat) (q : Option Addr) (c : Nat) : StK := fun w D F R => YSt w y D F R ∧ w.cell? ⟨y, 0, none⟩ = some (.slice q D.L.length c)
theorem yq_stb (y : Nat) (q : Option Addr) (c : Nat) : Stb (YQ y q c) := by
  refine ⟨fun h k hk => h.1.lt k hk, fun h k hk => (yk_stb y).dis h.1 k hk, fun h hs hk => ⟨h.1.same hs hk, ?_⟩⟩
  obtain ⟨⟨ql, nl, cl, qc, nc, cc, P, Q, h1, h2, rfl⟩, h3⟩ := h
  rw [← h3]
  unfold World.cell?
  rw [hk y (Or.inl (Or.inl rfl))]
theorem uqc (H : Tw A (YK y) w0 X w D E) : ∃ q c, Tw A (YQ y q c) w0 X w D E := by
  obtain ⟨F, R, G, S, h⟩ := H
  obtain ⟨⟨q, c, h1⟩, h2⟩ := yopen h.b
  exact ⟨q, c, F, R, G, S, { h with b := ⟨h.b, h1⟩ }⟩
theorem uback {q : Option Addr} {c : Nat} (H : Tw A (YQ y q c) w0 X w D E) : Tw A (YK y) w0 X w D E := by
  obtain ⟨F, R, G, S, h⟩ := H
  exact ⟨F, R, G, S, { h with b := h.b.1 }⟩
theorem utell {q : Option Addr} {c : Nat} (H : Tw A (YQ y q c) w0 X w D E) : w.cell? ⟨y, 0, none⟩ = some (.slice q E.L.length c) ∧ w.cell? ⟨y, 2, none⟩ = some (.int .i64 E.time) := by
  obtain ⟨F, R, G, S, h⟩ := H
  exact ⟨h.b.2, (yopen h.b.1).2⟩
theorem uversionQ {q : Option Addr} {c : Nat} (SA : Stb A) (H : Tw A (YQ y q c) w0 X w D E) (hn : E.n ≤ 100000) (K : ByteArray) (k : List UInt8) (hK : KeyIs K k) : Calls Try.prog 32 #[.pointer (some ⟨y, 0, none⟩), .string K] w fun e w' => e = .returned (.int .i64 (E.C k : Int)) ∧ Tw A (YQ y q c) w0 X w' D E ∧ Keep X w w' :=
  H.do2 SA (yq_stb y q c) (fun F R h => (yversion K k hK.eq h.1 hn).mono fun e w' ⟨h1, h2⟩ => ⟨h1, by subst h2; exact ⟨F, R, h, Off.refl _ _, Gr.refl _ _, Gr.refl _ _⟩⟩)
/-- The document's own store made, beside one that is there. -/
theorem usecond (SA : Stb A) (H : Tw A NoSt w0 X w D s0) : Tw A (YK w.heap.size) w0 X (w.alloc (.cells #[.slice none 0 0, .slice none 0 0, .int .i64 0] 30)) D s0 := by
  obtain ⟨F, R, G, S, h⟩ := H
  have hb : Below w.heap.size w (w.alloc (.cells #[.slice none 0 0, .slice none 0 0, .int .i64 0] 30)) := (Below.refl _ _).alloc (Nat.le_refl _) _
  refine ⟨F, R, FY w.heap.size none none, fun _ => False, SA.same h.a hb.size (fun k hk => hb.block k (SA.lt h.a k hk)), ynew w, fun k hk => ⟨fun h1 => ?_, id, (h.fg k hk).2.2.1, (h.fg k hk).2.2.2⟩, fun k hk => ?_, fun k hk => Nat.lt_of_lt_of_le (h.xl k hk) hb.size, h.bl.trans (hb.mono h.bl.size)⟩
  · have := SA.lt h.a k (Or.inl hk)
    rcases h1 with rfl | ⟨a, h1, -⟩ | ⟨a, h1, -⟩
    · exact Nat.lt_irrefl _ this
    · cases h1
    · cases h1
  · rcases hk with rfl | ⟨a, h1, -⟩ | ⟨a, h1, -⟩
    · exact ⟨fun h1 => Nat.lt_irrefl _ (SA.lt h.a _ (Or.inr h1)), fun h1 => Nat.lt_irrefl _ (h.xl _ h1), h.bl.size⟩
    · cases h1
    · cases h1
end
theorem uwf {A : StK} {w0 w : World} {X : Nat → Prop} {D E : Sd V} {y : Nat} (H : Tw A (YK y) w0 X w D E) : Wf E := by
  obtain ⟨F, R, G, S, h⟩ := H
  exact YSt.wf h.b
theorem keys_len (L : List (En V)) : (keysS L).length ≤ L.length := by
  unfold keysS
  rw [List.length_map]
  exact List.length_filter_le _ _
end Go.Proofs.Ytbcjgkedlapmhaa.StoL
