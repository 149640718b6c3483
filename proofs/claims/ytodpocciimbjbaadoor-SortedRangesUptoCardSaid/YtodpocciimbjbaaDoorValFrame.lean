/-
  From the statements' reading of a value (api.Value) to what the walks of layer 9 ask.
-/
import Derived.Test.YtodpocciimbjbaaDoorValRowz
import Derived.Test.YtodpocciimbjbaaDoorStrFrame
import Derived.ChangeArms
import Derived.OpenShut
namespace Go.Proofs.YtodpocciimbjbaaDoor.ValT
open Go.RowKit Kit StrT RowG
open Go.ChangeShapes Go.WideShapes
set_option linter.unusedVariables false
set_option maxRecDepth 100000

section
variable {H : Type} {enc : TypeId × Value → H} {W : World} {base : Nat} {v : Value} {d : DataW H} {p : List MemPlace}
/-- What is said of each record that was read. -/
def RowRead {α : Type} (D : α → DataW H) (L : List α) (d : DataW H) : Prop := (d = .nil ∧ L = []) ∨ ∃ sp, d = .slice (L.map D) sp
theorem list_of {α : Type} {n : Nat} {R : Nat → α → Prop} (h : ∀ i, i < n → ∃ a, R i a) : ∃ L : List α, L.length = n ∧ ∀ i (hi : i < L.length), R i L[i] := by
  induction n with
  | zero => exact ⟨[], rfl, fun i hi => absurd hi (by simp)⟩
  | succ n ih =>
    obtain ⟨L, hL, hR⟩ := ih (fun i hi => h i (by omega))
    obtain ⟨a, ha⟩ := h n (by omega)
    refine ⟨L ++ [a], by simp [hL], fun i hi => ?_⟩
    rcases Nat.lt_or_ge i L.length with hlt | hge
    · rw [List.getElem_append_left hlt]
      exact hR i hlt
    · rw [List.length_append, List.length_singleton] at hi
      obtain rfl : i = L.length := by omega
      rw [List.getElem_append_right (Nat.le_refl _)]
      simp only [Nat.sub_self, List.getElem_singleton]
      rw [hL]
      exact ha
theorem read_rows {α : Type} (E : Enc α) (hc : Tryd.prog.cellsOf E.ty = E.sz) (D : α → DataW H)
    (hone : ∀ fuel cs x, DataW.trod enc Tryd.prog W 0 (fun _ => true) true fuel E.ty cs = some x → ∃ a : α, cs = E.enc a ∧ x.1 = D a)
    {fuel : Nat} {cs : List Value} {x : DataW H × List MemPlace} (hf : DataW.trod enc Tryd.prog W 0 (fun _ => true) true fuel E.slt cs = some x) :
    ∃ (q : Option Addr) (L : List α) (cap : Nat), cs = [.slice q L.length cap] ∧ Rs E W q L ∧ L.length ≤ cap ∧ cap ≤ 9223372036854775807 ∧ (q = none → cap = 0) ∧ RowRead D L x.1 := by
  rcases DataW.trod_slice E.und hf with ⟨rfl, rfl⟩ | ⟨a, len, cap, elems, rest, n, _, rfl, rfl, hb, hl, hm, hlen, hel, hsp, hns⟩
  · exact ⟨none, [], 0, rfl, Rs.nil _ _ _, by simp, by omega, fun _ => rfl, Or.inl ⟨rfl, rfl⟩⟩
  · have hex : ∀ i, i < len → ∃ r : α, W.cells? 0 (a.add (i * E.sz)) E.sz = some (E.enc r) ∧ ∃ y, elems[i]? = some y ∧ y.1 = D r := by
      intro i hi
      have h1 := hel i hi
      have h2 : elems[i]? = some (elems[i]'(by omega)) := List.getElem?_eq_getElem (by omega)
      rw [h2, Option.bind_eq_some_iff] at h1
      obtain ⟨cs', h3, h4⟩ := h1
      obtain ⟨r, rfl, hr⟩ := hone _ _ _ h4
      rw [hc] at h3
      exact ⟨r, h3, _, h2, hr⟩
    obtain ⟨L, hL, hR⟩ := list_of hex
    subst hL
    refine ⟨some a, L, cap, rfl, fun h0 => ?_, hl, by unfold maxLen at hm; omega, (fun h => by cases h), Or.inr ⟨rest.map (·.1), ?_⟩⟩
    · have hat : ∀ i (hi : i < L.length) d, d < E.sz → W.cell? ((a.add (i * E.sz)).add d) = (E.enc L[i])[d]? := fun i hi d hd => (World.cells?_some (hR i hi).1).2.2 d hd
      have h00 := hat 0 h0 0 E.pos
      have hlen0 : 0 < (E.enc L[0]).length := by rw [E.len]; exact E.pos
      rw [List.getElem?_eq_getElem hlen0] at h00
      obtain ⟨ab, ao, spot⟩ := a
      have hspot : spot = none := by simpa [Addr.add] using World.cell?_spot h00
      subst hspot
      refine ⟨ab, ao, rfl, ?_, fun j hj => ?_⟩
      · have := Go.block_lt_of_cell h00
        simpa [Addr.add] using this
      · have hd : j % E.sz < E.sz := Nat.mod_lt _ E.pos
        have hi : j / E.sz < L.length := (Nat.div_lt_iff_lt_mul E.pos).2 hj
        have h1 := hat (j / E.sz) hi (j % E.sz) hd
        rw [Addr.add_lit, Addr.add_lit, ← flat_at E L _ hi _ hd, Nat.add_assoc] at h1
        rwa [show j / E.sz * E.sz + j % E.sz = j by rw [Nat.mul_comm]; exact Nat.div_add_mod j E.sz] at h1
    · show DataW.slice (elems.map (·.1)) (rest.map (·.1)) = _
      congr 1
      apply List.ext_getElem?
      intro i
      rw [List.getElem?_map, List.getElem?_map]
      rcases Nat.lt_or_ge i L.length with hi | hi
      · obtain ⟨y, h1, h2⟩ := (hR i hi).2
        rw [h1, List.getElem?_eq_getElem hi]
        simp [h2]
      · rw [List.getElem?_eq_none (by omega), List.getElem?_eq_none hi]
        rfl

theorem c_pair : Tryd.prog.cellsOf 53 = 2 := by kernel_rfl
theorem c_mark : Tryd.prog.cellsOf 39 = 2 := by kernel_rfl
theorem c_val : Tryd.prog.cellsOf 26 = 5 := by kernel_rfl
theorem c_str : Tryd.prog.cellsOf 9 = 1 := by kernel_rfl
theorem c_int : Tryd.prog.cellsOf 3 = 1 := by kernel_rfl
theorem c_u8 : Tryd.prog.cellsOf 5 = 1 := by kernel_rfl
theorem c_sl : Tryd.prog.cellsOf 22 = 1 := by kernel_rfl
theorem c_sh : Tryd.prog.cellsOf 23 = 1 := by kernel_rfl
theorem c_sz : Tryd.prog.cellsOf 24 = 1 := by kernel_rfl
def pairD (a : Pr) : DataW H := .agg [.lit (.string a.name), .lit (.string a.val)]
def markD (a : Mk) : DataW H := .agg [.lit (.string a.name), .lit (.int .i64 a.n)]
theorem two_list {α : Type} {l : List α} (h : l.length = 2) : ∃ a b, l = [a, b] := by
  match l, h with
  | [a, b], _ => exact ⟨a, b, rfl⟩
theorem bytes_back (s : ByteArray) : (⟨s.data.toList.toArray⟩ : ByteArray) = s := by cases s; simp
theorem one_pair (fuel : Nat) (cs : List Value) (x : DataW H × List MemPlace) (hf : DataW.trod enc Tryd.prog W 0 (fun _ => true) true fuel prE.ty cs = some x) : ∃ a : Pr, cs = prE.enc a ∧ x.1 = pairD a := by
  obtain ⟨y0, y1, m, hx, hl, e0, e1⟩ := trod_struct2 Tryd.underlying53 hf
  rw [c_pair] at hl
  obtain ⟨u, v, rfl⟩ := two_list hl
  simp only [c_str] at e0 e1
  simp at e0 e1
  obtain ⟨s0, h0, rfl, -⟩ := DataW.trod_string Tryd.underlying9 e0
  obtain ⟨s1, h1, rfl, -⟩ := DataW.trod_string Tryd.underlying9 e1
  simp at h0 h1
  subst h0 h1
  refine ⟨⟨s0.data.toList, s1.data.toList⟩, ?_, by rw [hx]; rfl⟩
  show _ = [Value.string ⟨s0.data.toList.toArray⟩, Value.string ⟨s1.data.toList.toArray⟩]
  rw [bytes_back, bytes_back]
theorem one_mark (fuel : Nat) (cs : List Value) (x : DataW H × List MemPlace) (hf : DataW.trod enc Tryd.prog W 0 (fun _ => true) true fuel mkE.ty cs = some x) : ∃ a : Mk, cs = mkE.enc a ∧ x.1 = markD a := by
  obtain ⟨y0, y1, m, hx, hl, e0, e1⟩ := trod_struct2 Tryd.underlying39 hf
  rw [c_mark] at hl
  obtain ⟨u, v, rfl⟩ := two_list hl
  simp only [c_str, c_int] at e0 e1
  simp at e0 e1
  obtain ⟨s0, h0, rfl, -⟩ := DataW.trod_string Tryd.underlying9 e0
  obtain ⟨n, h1, rfl, -⟩ := DataW.trod_int Tryd.underlying3 e1
  simp at h0 h1
  subst h0 h1
  refine ⟨⟨s0.data.toList, n⟩, ?_, by rw [hx]; rfl⟩
  show _ = [Value.string ⟨s0.data.toList.toArray⟩, Value.int .i64 n]
  rw [bytes_back]

/-- How a value was read. -/
def ReadV (k : Int) (S : ByteArray) (d : V) (dd : DataW H) : Prop := ∃ dL dH dZ, dd = .agg [.lit (.int .u8 k), .lit (.string S.data.toList), dL, dH, dZ] ∧ TextsRead d.l dL ∧ RowRead pairD d.h dH ∧ RowRead markD d.z dZ
/-- Sizes that a machine holds. -/
structure VSz (S : ByteArray) (d : V) : Prop where
  s : S.size ≤ 140737488351232
  l : ∀ s ∈ d.l, s.length ≤ 140737488351232
  h : ∀ p ∈ d.h, p.val.length ≤ 140737488351232
  z : ∀ m ∈ d.z, m.name.length ≤ 140737488351232
theorem okWide_struct {P : Program} {t : TypeId} {fs : Array Field} (hu : P.underlying t = some (.struct fs)) (h : Value.okWide P W .any base t v) : ∃ cs, v = .agg cs ∧ cs.size = P.cellsOf t := by
  unfold Value.okWide at h
  rw [hu] at h
  obtain ⟨cs, e, h1, _⟩ := h
  exact ⟨cs, e, h1⟩
theorem five_cells {cs : Array Value} (h : cs.size = 5) : ∃ a b c d e, cs = #[a, b, c, d, e] := by
  obtain ⟨l⟩ := cs
  match l, h with
  | [a, b, c, d, e], _ => exact ⟨a, b, c, d, e, rfl⟩
theorem open_v (hval : Value.okWide Tryd.prog W .any base 26 v) (h : DataW.Trod enc Tryd.prog W 0 (fun _ => true) true 26 v d p) :
    ∃ k S ql nl cl qh nh ch qz nz cz dv, v = .agg #[.int .u8 k, .string S, .slice ql nl cl, .slice qh nh ch, .slice qz nz cz] ∧ VArg W k S ql nl cl qh nh ch qz nz cz dv ∧ ReadV k S dv d := by
  obtain ⟨cs, rfl, hcs⟩ := okWide_struct Tryd.underlying26 hval
  rw [c_val] at hcs
  obtain ⟨v1, v2, v3, v4, v5, rfl⟩ := five_cells hcs
  obtain ⟨fuel, hf⟩ := h
  obtain ⟨xs, m, -, hx, -, hl, hel⟩ := DataW.trod_struct Tryd.underlying26 hf
  match xs, hl with
  | [y0, y1, y2, y3, y4], _ =>
    have e0 := hel 0 _ rfl
    have e1 := hel 1 _ rfl
    have e2 := hel 2 _ rfl
    have e3 := hel 3 _ rfl
    have e4 := hel 4 _ rfl
    simp only [List.getElem_toArray, List.getElem_cons_zero, List.getElem_cons_succ, c_u8, c_str, c_sl, c_sh, c_sz] at e0 e1 e2 e3 e4
    simp [Value.cells] at e0 e1 e2 e3 e4
    obtain ⟨k, h0, rfl, hw⟩ := DataW.trod_int Tryd.underlying5 e0
    obtain ⟨S, h1, rfl, -⟩ := DataW.trod_string Tryd.underlying9 e1
    obtain ⟨ql, L, cl, h2, a1, a2, a3, a4, a5⟩ := StrT.read_ss e2
    obtain ⟨qh, HH, ch, h3, b1, b2, b3, b4, b5⟩ := read_rows prE c_pair pairD one_pair e3
    obtain ⟨qz, Z, cz, h4, c1, c2, c3, c4, c5⟩ := read_rows mkE c_mark markD one_mark e4
    simp at h0 h1 h2 h3 h4 hx
    subst h0 h1 h2 h3 h4
    obtain ⟨hk0, hk1⟩ := bounds_u8 hw
    refine ⟨k, S, ql, _, cl, qh, _, ch, qz, _, cz, ⟨k.toNat, S.data.toList, L, HH, Z⟩, rfl, ⟨by show k = ((k.toNat : Nat) : Int); omega, by show k.toNat ≤ 255; omega, rfl, rs_ss.2 a1, b1, c1, rfl, rfl, rfl, a2, b2, c2, a3, b3, c3, a4, b4, c4⟩, y2.1, y3.1, y4.1, hx.1, a5, b5, c5⟩
theorem weights_row {α : Type} {E : Enc α} {D : α → DataW H} {L : List α} {dd : DataW H} (h : RowRead D L dd) {ns : List Nat} (hn : ∀ n ∈ dd.weights Tryd.prog E.slt, n ∈ ns) (hall : ns.all (· ≤ reachBytes) = true) {sz : α → Nat} (hsz : ∀ a, sz a ∈ (D a).weights Tryd.prog E.ty) : ∀ a ∈ L, sz a ≤ 140737488351232 := by
  intro a ha
  rcases h with ⟨-, rfl⟩ | ⟨sp, rfl⟩
  · simp at ha
  · have hm : sz a ∈ DataW.weights (H := H) Tryd.prog E.slt (.slice (L.map D) sp) := by
      have h1 := StrT.weights_all (P := Tryd.prog) (e := E.ty) (L.map D) (D a) (List.mem_map.2 ⟨a, ha, rfl⟩) (sz a) (hsz a)
      simp only [DataW.weights, E.und]
      exact List.mem_cons_of_mem _ (List.mem_append.2 (Or.inl h1))
    have h2 := List.all_eq_true.1 hall _ (hn _ hm)
    have e3 : reachBytes = 140737488351232 := by decide
    rw [decide_eq_true_eq, e3] at h2
    exact h2
theorem size_v {ts : List TypeId} {ds : List (DataW H)} (h : (DataW.weightsEach Tryd.prog ts ds).all (· ≤ reachBytes) = true) {k : Int} {S : ByteArray} {dv : V} {dd : DataW H} (j : Nat) (ht : ts[j]? = some 26) (hd : ds[j]? = some dd) (hr : ReadV k S dv dd) : VSz S dv := by
  obtain ⟨dL, dH, dZ, rfl, r1, r2, r3⟩ := hr
  have hin : ∀ n, (n = S.data.toList.length ∨ n ∈ dL.weights Tryd.prog 22 ∨ n ∈ dH.weights Tryd.prog 23 ∨ n ∈ dZ.weights Tryd.prog 24) → n ∈ DataW.weightsEach Tryd.prog ts ds := fun n hn => DataW.weights_mem_each ht hd n (by
    simp only [DataW.weights, Tryd.underlying26]
    simp only [List.map_cons, DataW.weightsEach, DataW.weights, List.mem_append, List.nil_append, List.mem_singleton]
    rcases hn with hn | hn | hn | hn <;> simp [hn])
  refine ⟨?_, StrT.read_sizes r1 (fun n hn => hin n (Or.inr (Or.inl hn))) h, weights_row (E := prE) (sz := fun a : Pr => a.val.length) r2 (fun n hn => hin n (Or.inr (Or.inr (Or.inl hn)))) h (fun a => ?_), weights_row (E := mkE) (sz := fun a : Mk => a.name.length) r3 (fun n hn => hin n (Or.inr (Or.inr (Or.inr hn)))) h (fun a => ?_)⟩
  · have h1 := List.all_eq_true.1 h _ (hin _ (Or.inl rfl))
    have e3 : reachBytes = 140737488351232 := by decide
    have ea : S.data.toList.length = S.size := by simp
    rw [decide_eq_true_eq, ea, e3] at h1
    exact h1
  · show a.val.length ∈ DataW.weights Tryd.prog 53 _
    simp [pairD, DataW.weights, DataW.weightsEach, Tryd.underlying53]
  · show a.name.length ∈ DataW.weights Tryd.prog 39 _
    simp [markD, DataW.weights, DataW.weightsEach, Tryd.underlying39]
end

end Go.Proofs.YtodpocciimbjbaaDoor.ValT
