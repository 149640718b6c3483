/-
  The document's examples of layer 9, over the contracts of the landed code.
-/
import Derived.Test.YtljhcakfbdbmpaaValCode
namespace Go.Proofs.Ytljhcakfbdbmpaa.ValL
open Go.Sort Go.RowKit Kit StrT RowG BOrd ValT RefV ValM
set_option linter.unusedVariables false
set_option maxRecDepth 100000

/-- Two words just laid. -/
theorem two_new (w W : World) (k : Nat) (a b : ByteArray) (L : List (List UInt8)) (hW : W = w.alloc (.cells #[.string a, .string b] 9)) (hk : k = w.heap.size) (hL : L = [a.data.toList, b.data.toList]) : Rs strE W (some ⟨k, 0, none⟩) L := by
  subst hW hk hL
  refine rs_ss.2 fun _ => ⟨_, 0, rfl, by simp, fun j hj => ?_⟩
  rw [cell_of_row _ _ _ _ 9 _ (heap_alloc_last w _)]
  match j, hj with
  | 0, _ => rfl
  | 1, _ => rfl
  | j + 2, hj => exact absurd hj (by simp)
theorem two_vin (w W : World) (k : Nat) (a b : ByteArray) (L : List (List UInt8)) (hW : W = w.alloc (.cells #[.string a, .string b] 9)) (hk : k = w.heap.size) (hL : L = [a.data.toList, b.data.toList]) :
    VIn W 4 ⟨#[]⟩ (some ⟨k, 0, none⟩) 2 2 none 0 0 none 0 0 ⟨4, [], L, [], []⟩ := by
  have h := two_new w W k a b L hW hk hL
  subst hL
  exact ⟨rfl, by show (4 : Nat) ≤ 255; decide, rfl, h, Rs.nil _ _ _, Rs.nil _ _ _, rfl, rfl, rfl, by decide, by decide, by decide, by decide, by decide, by decide, by decide, by decide, by decide, (fun h => by cases h), fun _ => rfl, fun _ => rfl⟩
/-- A value without rows. -/
theorem bare_vin (w : World) (k : Nat) (S : ByteArray) (hk : k ≤ 255) : VIn w (k : Int) S none 0 0 none 0 0 none 0 0 ⟨k, S.data.toList, [], [], []⟩ :=
  ⟨rfl, hk, rfl, Rs.nil _ _ _, Rs.nil _ _ _, Rs.nil _ _ _, rfl, rfl, rfl, by decide, by decide, by decide, by decide, by decide, by decide, by decide, by decide, by decide, fun _ => rfl, fun _ => rfl, fun _ => rfl⟩

/-- A value that was answered, opened. -/
theorem valP_open {d : V} {w w' : World} {e : Ending} (h : ValP d w e w') (hk : d.kind ≤ 255) (h1 : d.l.length ≤ 1048576) (h2 : d.h.length ≤ 1048576) (h3 : d.z.length ≤ 1048576) :
    ∃ k S ql nl cl qh nh ch qz nz cz, e = .returned (.agg #[.int .u8 k, .string S, .slice ql nl cl, .slice qh nh ch, .slice qz nz cz]) ∧ VIn w' k S ql nl cl qh nh ch qz nz cz d ∧ Below w.heap.size w w' := by
  obtain ⟨v, rfl, hA, hb⟩ := h
  obtain ⟨S, ql, cl, qh, ch, qz, cz, rfl, hV, -⟩ := hA.vin hk h1 h2 h3
  exact ⟨_, S, ql, _, cl, qh, _, ch, qz, _, cz, rfl, hV, hb⟩
theorem small_len (d : V) : (smallV d).l.length ≤ 1048576 ∧ (smallV d).h.length ≤ 1048576 ∧ (smallV d).z.length ≤ 1048576 := by
  unfold smallV
  simp only [List.length_take]
  omega
/-- A whole struct taken, as one of several operations whose order is open, beside calls that make memory. -/
theorem quiet_load_rowB {P : Program} {w0 : World} {o : Oper} {a : Act} {K : Act → Prop} (ty : TypeId) (x : Operand) (ho : o.op = .load ty x)
    (g : Nat) (hx : a.eval x = .pointer (some ⟨g, 0, none⟩)) (t : TypeId) (cs : Array Value) (hp : w0.heap[g]? = some (.cells cs t (0, 0))) (d : TypeDesc)
    (hu : P.underlying ty = some d) (hd : (match d with | .struct _ | .array _ _ => true | _ => false) = true) (hi : Hid ((P.info? ty).map (·.size) = some cs.size))
    (h : K (a.put o.dst (.agg cs))) : o.quiet P a (fun w' => ∃ p : Regrown, w' = grow (redrawn w0 p.d) p.os) K := by
  refine ⟨_, ?_, h⟩
  rintro _ ⟨p, rfl⟩
  unfold Oper.quietAt execOp
  have hlt := (Array.getElem?_eq_some_iff.1 hp).1
  simp only [ho, hx, Instr.loadAt, Instr.sureAddr, Sem.run_bind, Sem.run_pure, Result.andThen_ok, run_loadVar_row (grow (redrawn w0 p.d) p.os) g t ty _ (0, 0) d (by rw [(below_regrown w0 p.d p.os).block g hlt]; exact hp) hu hd hi.out]
  exact ⟨rfl, rfl⟩

set_option maxHeartbeats 2000000 in
theorem shown_any (w : World) : Calls Try.prog 7 #[] w fun e w' => e = .returned (.bool true) ∧ Below w.heap.size w w' := by
  have C1 := Lib.hid (right_any _ _ _ _ _ _ _ _ _ _ _ _ _ (two_vin w _ w.heap.size ⟨#[97]⟩ ⟨#[98]⟩ [[97], [98]] rfl rfl rfl))
  have C2 := Lib.hid (fun (W : World) => right_any _ _ _ _ _ _ _ _ _ _ _ _ _ (two_vin W _ W.heap.size ⟨#[98]⟩ ⟨#[97]⟩ [[98], [97]] rfl rfl rfl))
  have C3 := Lib.hid (fun (W : World) => right_any _ _ _ _ _ _ _ _ _ _ _ _ _ (bare_vin W 2 ⟨#[]⟩ (by decide)))
  rw [show rightB ⟨4, [], [[97], [98]], [], []⟩ = true by decide +kernel] at C1
  rw [show rightB ⟨4, [], [[98], [97]], [], []⟩ = false by decide +kernel] at C2
  rw [show rightB ⟨2, (⟨#[]⟩ : ByteArray).data.toList, [], [], []⟩ = false by decide +kernel] at C3
  have HB1 := Lib.hid (bel_new w (.cells #[.string ⟨#[97]⟩, .string ⟨#[98]⟩] 9))
  go_enter Try.func7, Try.ntmps7
  go_wp2_with fail
  refine C1.out.mono ?_
  rintro e w1 ⟨rfl, hb1⟩
  have HB2 := Lib.hid (HB1.out.trans (hb1.mono HB1.out.size))
  have HB3 := Lib.hid (HB2.out.alloc HB2.out.size (.cells #[.string ⟨#[98]⟩, .string ⟨#[97]⟩] 9))
  clear hb1 HB1 C1
  go_wp2_with fail
  refine (C2.out _).mono ?_
  rintro e w2 ⟨rfl, hb2⟩
  have HB4 := Lib.hid (HB3.out.trans (hb2.mono HB3.out.size))
  clear hb2 HB3 C2 HB2
  go_wp2_with fail
  refine (C3.out _).mono ?_
  rintro e w3 ⟨rfl, hb3⟩
  have HB5 := Lib.hid (HB4.out.trans (hb3.mono HB4.out.size))
  clear hb3 HB4 C3
  go_wp2_with fail
  go_ret
  exact ⟨rfl, HB5.out⟩

end Go.Proofs.Ytljhcakfbdbmpaa.ValL
