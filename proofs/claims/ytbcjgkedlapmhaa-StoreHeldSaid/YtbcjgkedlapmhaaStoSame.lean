/-
  Two landed stores side by side.
-/
import Derived.Test.YtbcjgkedlapmhaaOpRow
import Derived.Test.YtbcjgkedlapmhaaStoLive
import Derived.Test.YtbcjgkedlapmhaaLandSame
namespace Go.Proofs.Ytbcjgkedlapmhaa.StoL
open Go.RowKit Kit StrT RowG BOrd ValT StoT StoM MapF
set_option linter.unusedVariables false
set_option maxRecDepth 100000

section
variable {A : StK} {w0 w : World} {X : Nat → Prop} {D E : Sd V} {s t : Nat}
/-- Another new store, beside one that is there. -/
theorem tsecond (H : Tw (SSt s) NoSt w0 X w D s0) : Calls Try.prog 10 #[] w fun e w' => ∃ t, e = .returned (.pointer (some ⟨t, 0, none⟩)) ∧ Tw (SSt s) (SSt t) w0 X w' D s0 := by
  obtain ⟨F, R, G, S, h⟩ := H
  refine (snew w).mono ?_
  rintro e w' ⟨t, F', rfl, h', hb, hF⟩
  refine ⟨t, rfl, F, R, F', fun _ => False, (sstb s).same h.a hb.size (fun k hk => hb.block k ((sstb s).lt h.a k hk)), h', fun k hk => ⟨fun h1 => ?_, id, (h.fg k hk).2.2.1, (h.fg k hk).2.2.2⟩, fun k hk => ⟨fun h1 => ?_, fun h1 => ?_, Nat.le_trans h.bl.size (hF k hk)⟩, fun k hk => Nat.lt_of_lt_of_le (h.xl k hk) hb.size, h.bl.trans (hb.mono h.bl.size)⟩
  · exact absurd ((sstb s).lt h.a k (Or.inl hk)) (Nat.not_lt.2 (hF k h1))
  · exact absurd ((sstb s).lt h.a k (Or.inr h1)) (Nat.not_lt.2 (hF k hk))
  · exact absurd (h.xl k h1) (Nat.not_lt.2 (hF k hk))
theorem vput (SA : Stb A) (H : Tw A (SSt t) w0 X w D E) (hn : E.n ≤ 100000) (K : ByteArray) (k : List UInt8) (hK : KeyIs K k) (p : PV) (hp : p.In w) (hx : ∀ k, p.at_ k → X k) (hr : right p.d) : Calls Try.prog 19 #[.pointer (some ⟨t, 0, none⟩), .string K, p.agg] w fun e w' => e = .returned (.tuple #[]) ∧ Tw A (SSt t) w0 X w' D (putAny k p.d E) ∧ Keep X w w' :=
  (tput SA H.swap hn K k hK p hp hx hr).mono fun _ _ h => ⟨h.1, h.2.1.swap, h.2.2⟩
theorem vget (SA : Stb A) (H : Tw A (SSt t) w0 X w D E) (hn : E.n ≤ 100000) (K : ByteArray) (k : List UInt8) (hK : KeyIs K k) : Calls Try.prog 13 #[.pointer (some ⟨t, 0, none⟩), .string K] w (GotV A (SSt t) w0 X w D (getS k E) ((getV k E.L).getD v0)) :=
  (tget SA H.swap hn K k hK).mono fun _ _ ⟨p, a, b, c, d, e⟩ => ⟨p, a, b, c, d.swap, e⟩
theorem vdue (SA : Stb A) (H : Tw A (SSt t) w0 X w D E) (hn : E.n ≤ 100000) (K : ByteArray) (k : List UInt8) (hK : KeyIs K k) : Calls Try.prog 23 #[.pointer (some ⟨t, 0, none⟩), .string K] w fun e w' => e = .returned (.tuple #[.int .i64 (dueV k E.L).1, .bool (dueV k E.L).2]) ∧ Tw A (SSt t) w0 X w' D (getS k E) ∧ Keep X w w' :=
  (tdue SA H.swap hn K k hK).mono fun _ _ h => ⟨h.1, h.2.1.swap, h.2.2⟩
theorem vsetdue (SA : Stb A) (H : Tw A (SSt t) w0 X w D E) (hn : E.n ≤ 100000) (K : ByteArray) (k : List UInt8) (a : Int) (on : Bool) (hK : KeyIs K k) : Calls Try.prog 15 #[.pointer (some ⟨t, 0, none⟩), .string K, .int .i64 a, .bool on] w fun e w' => e = .returned (.bool (setDueB k E)) ∧ Tw A (SSt t) w0 X w' D (setDueS k a on E) ∧ Keep X w w' :=
  (tsetdue SA H.swap hn K k a on hK).mono fun _ _ h => ⟨h.1, h.2.1.swap, h.2.2⟩
theorem vtick (SA : Stb A) (H : Tw A (SSt t) w0 X w D E) (hn : E.n ≤ 100000) (m : Int) (hm0 : -9223372036854775808 ≤ m) (hm1 : m ≤ 9223372036854775807) : Calls Try.prog 17 #[.pointer (some ⟨t, 0, none⟩), .int .i64 m] w fun e w' => e = .returned (.tuple #[]) ∧ Tw A (SSt t) w0 X w' D (tickS m E) ∧ Keep X w w' :=
  (ttick SA H.swap hn m hm0 hm1).mono fun _ _ h => ⟨h.1, h.2.1.swap, h.2.2⟩
theorem vkeys (SA : Stb A) (H : Tw A (SSt t) w0 X w D E) (hn : E.n ≤ 100000) : Calls Try.prog 27 #[.pointer (some ⟨t, 0, none⟩)] w (GotL A (SSt t) w0 X w D E (keysS E.L)) :=
  (tkeys SA H.swap hn).mono fun _ _ ⟨q, c, a, b, c1, c2, c3, d, e⟩ => ⟨q, c, a, b, c1, c2, c3, d.swap, e⟩
theorem vpurge (SA : Stb A) (H : Tw A (SSt t) w0 X w D E) (hn : E.n ≤ 100000) : Calls Try.prog 21 #[.pointer (some ⟨t, 0, none⟩)] w fun e w' => e = .returned (.int .i64 (purgeN E : Int)) ∧ Tw A (SSt t) w0 X w' D (purgeS E) ∧ Keep X w w' :=
  (tpurge SA H.swap hn).mono fun _ _ h => ⟨h.1, h.2.1.swap, h.2.2⟩
theorem vversion (SA : Stb A) (H : Tw A (SSt t) w0 X w D E) (hn : E.n ≤ 100000) (K : ByteArray) (k : List UInt8) (hK : KeyIs K k) : Calls Try.prog 31 #[.pointer (some ⟨t, 0, none⟩), .string K] w fun e w' => e = .returned (.int .i64 (E.C k : Int)) ∧ Tw A (SSt t) w0 X w' D E ∧ Keep X w w' :=
  (tversion SA H.swap hn K k hK).mono fun _ _ h => ⟨h.1, h.2.1.swap, h.2.2⟩
theorem vheld (SA : Stb A) (H : Tw A (SSt t) w0 X w D E) (hn : E.n ≤ 100000) : Calls Try.prog 29 #[.pointer (some ⟨t, 0, none⟩)] w fun e w' => e = .returned (.int .i64 (E.L.length : Int)) ∧ Tw A (SSt t) w0 X w' D E ∧ Keep X w w' :=
  (theld SA H.swap hn).mono fun _ _ h => ⟨h.1, h.2.1.swap, h.2.2⟩
theorem twf (H : Tw (SSt s) A w0 X w D E) : Wf D := by
  obtain ⟨F, R, G, S, h⟩ := H
  exact swf h.a
end
theorem put_n (k : List UInt8) (v : V) (D : Sd V) : (putAny k v D).n = D.n + 1 := by
  unfold putAny goneS
  split
  · split <;> rfl
  · rfl
theorem due_n (k : List UInt8) (a : Int) (on : Bool) (D : Sd V) : (setDueS k a on D).n = D.n + 1 := by
  unfold setDueS
  split
  · split <;> rfl
  · rfl

end Go.Proofs.Ytbcjgkedlapmhaa.StoL
