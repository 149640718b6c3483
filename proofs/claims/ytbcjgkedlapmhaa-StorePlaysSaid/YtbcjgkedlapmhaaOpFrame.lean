/-
  From the statements' reading of rows of things that are done to what the walks of layer 10 ask.
-/
import Derived.Test.YtbcjgkedlapmhaaOpRow
import Derived.Test.YtbcjgkedlapmhaaValFrame
namespace Go.Proofs.Ytbcjgkedlapmhaa.StoL
open Go.RowKit Kit StrT RowG BOrd ValT StoT
open Go.ChangeShapes Go.WideShapes
set_option linter.unusedVariables false
set_option maxRecDepth 100000

section
variable {H : Type} {enc : TypeId × Value → H} {W : World} {base : Nat} {v : Value} {d : DataW H} {p : List MemPlace}
/-- What is said of each record that was read, where a record may be read in several ways. -/
def RowRel {α : Type} (RD : α → DataW H → Prop) (L : List α) (d : DataW H) : Prop := (d = .nil ∧ L = []) ∨ ∃ els sp, d = .slice els sp ∧ ∀ i (h : i < L.length), ∃ y, els[i]? = some y ∧ RD L[i] y
theorem read_rel {α : Type} (E : Enc α) (hc : Try.prog.cellsOf E.ty = E.sz) (RD : α → DataW H → Prop) (Pr : α → Prop)
    (hone : ∀ fuel cs x, DataW.trod enc Try.prog W 0 (fun _ => true) true fuel E.ty cs = some x → ∃ a : α, cs = E.enc a ∧ RD a x.1 ∧ Pr a)
    {fuel : Nat} {cs : List Value} {x : DataW H × List MemPlace} (hf : DataW.trod enc Try.prog W 0 (fun _ => true) true fuel E.slt cs = some x) :
    ∃ (q : Option Addr) (L : List α) (cap : Nat), cs = [.slice q L.length cap] ∧ Rs E W q L ∧ L.length ≤ cap ∧ cap ≤ 9223372036854775807 ∧ (∀ a ∈ L, Pr a) ∧ RowRel RD L x.1 := by
  rcases DataW.trod_slice E.und hf with ⟨rfl, rfl⟩ | ⟨a, len, cap, elems, rest, n, _, rfl, rfl, hb, hl, hm, hlen, hel, hsp, hns⟩
  · exact ⟨none, [], 0, rfl, Rs.nil _ _ _, by simp, by omega, (fun a h => by cases h), Or.inl ⟨rfl, rfl⟩⟩
  · have hex : ∀ i, i < len → ∃ r : α, W.cells? 0 (a.add (i * E.sz)) E.sz = some (E.enc r) ∧ Pr r ∧ ∃ y, elems[i]? = some y ∧ RD r y.1 := by
      intro i hi
      have h1 := hel i hi
      have h2 : elems[i]? = some (elems[i]'(by omega)) := List.getElem?_eq_getElem (by omega)
      rw [h2, Option.bind_eq_some_iff] at h1
      obtain ⟨cs', h3, h4⟩ := h1
      obtain ⟨r, rfl, hr, hp⟩ := hone _ _ _ h4
      rw [hc] at h3
      exact ⟨r, h3, hp, _, h2, hr⟩
    obtain ⟨L, hL, hR⟩ := list_of hex
    subst hL
    refine ⟨some a, L, cap, rfl, fun h0 => ?_, hl, by unfold maxLen at hm; omega, fun r hr => ?_, Or.inr ⟨elems.map (·.1), rest.map (·.1), rfl, fun i hi => ?_⟩⟩
    · have hat : ∀ i (hi : i < L.length) d, d < E.sz → W.cell? ((a.add (i * E.sz)).add d) = (E.enc L[i])[d]? := fun i hi d hd => (World.cells?_some (hR i hi).1).2.2 d hd
      have h00 := hat 0 h0 0 E.pos
      have hlen0 : 0 < (E.enc L[0]).length := by rw [E.len]; exact E.pos
      rw [List.getElem?_eq_getElem hlen0] at h00
      obtain ⟨ab, ao, spot⟩ := a
      have hspot : spot = none := by simpa [Addr.add] using World.cell?_spot h00
      subst hspot
      refine ⟨ab, ao, rfl, ?_, fun j hj => ?_⟩
      · have := Go.block_lt_of_cell h00
        simpa [Addr.add] using this
      · have hd : j % E.sz < E.sz := Nat.mod_lt _ E.pos
        have hi : j / E.sz < L.length := (Nat.div_lt_iff_lt_mul E.pos).2 hj
        have h1 := hat (j / E.sz) hi (j % E.sz) hd
        rw [Addr.add_lit, Addr.add_lit, ← flat_at E L _ hi _ hd, Nat.add_assoc] at h1
        rwa [show j / E.sz * E.sz + j % E.sz = j by rw [Nat.mul_comm]; exact Nat.div_add_mod j E.sz] at h1
    · obtain ⟨i, hi, rfl⟩ := List.getElem_of_mem hr
      exact (hR i hi).2.1
    · obtain ⟨-, -, y, h1, h2⟩ := hR i hi
      exact ⟨y.1, by rw [List.getElem?_map, h1]; rfl, h2⟩
theorem five_list {l : List Value} (h : l.length = 5) : ∃ a b c d e, l = [a, b, c, d, e] := by
  match l, h with
  | [a, b, c, d, e], _ => exact ⟨a, b, c, d, e, rfl⟩
theorem nine_list {l : List Value} (h : l.length = 9) : ∃ a b c d e f g i j, l = [a, b, c, d, e, f, g, i, j] := by
  match l, h with
  | [a, b, c, d, e, f, g, i, j], _ => exact ⟨a, b, c, d, e, f, g, i, j, rfl⟩
theorem read_v {fuel : Nat} {cs : List Value} {x : DataW H × List MemPlace} (hf : DataW.trod enc Try.prog W 0 (fun _ => true) true fuel 35 cs = some x) :
    ∃ k S ql nl cl qh nh ch qz nz cz dv, cs = [.int .u8 k, .string S, .slice ql nl cl, .slice qh nh ch, .slice qz nz cz] ∧ VArg W k S ql nl cl qh nh ch qz nz cz dv ∧ ReadV k S dv x.1 := by
  obtain ⟨xs, m, -, hx, hcs, hl, hel⟩ := DataW.trod_struct Try.underlying35 hf
  rw [c_val] at hcs
  obtain ⟨v1, v2, v3, v4, v5, rfl⟩ := five_list hcs
  match xs, hl with
  | [y0, y1, y2, y3, y4], _ =>
    have e0 := hel 0 _ rfl
    have e1 := hel 1 _ rfl
    have e2 := hel 2 _ rfl
    have e3 := hel 3 _ rfl
    have e4 := hel 4 _ rfl
    simp only [List.getElem_toArray, List.getElem_cons_zero, List.getElem_cons_succ, c_u8, c_str, c_sl, c_sh, c_sz] at e0 e1 e2 e3 e4
    simp at e0 e1 e2 e3 e4
    obtain ⟨k, h0, rfl, hw⟩ := DataW.trod_int Try.underlying5 e0
    obtain ⟨S, h1, rfl, -⟩ := DataW.trod_string Try.underlying9 e1
    obtain ⟨ql, L, cl, h2, a1, a2, a3, a4, a5⟩ := StrT.read_ss e2
    obtain ⟨qh, HH, ch, h3, b1, b2, b3, b4, b5⟩ := read_rows prE c_pair pairD one_pair e3
    obtain ⟨qz, Z, cz, h4, c1, c2, c3, c4, c5⟩ := read_rows mkE c_mark markD one_mark e4
    simp at h0 h1 h2 h3 h4 hx
    subst h0 h1 h2 h3 h4
    obtain ⟨hk0, hk1⟩ := bounds_u8 hw
    refine ⟨k, S, ql, _, cl, qh, _, ch, qz, _, cz, ⟨k.toNat, S.data.toList, L, HH, Z⟩, rfl, ⟨by show k = ((k.toNat : Nat) : Int); omega, by show k.toNat ≤ 255; omega, rfl, rs_ss.2 a1, b1, c1, rfl, rfl, rfl, a2, b2, c2, a3, b3, c3, a4, b4, c4⟩, y2.1, y3.1, y4.1, by rw [hx], a5, b5, c5⟩
theorem c_op : Try.prog.cellsOf 37 = 9 := by kernel_rfl
theorem c_bool : Try.prog.cellsOf 4 = 1 := by kernel_rfl
/-- How a thing to be done was read. -/
def OpRd (r : OpR) (dd : DataW H) : Prop := ∃ dV, dd = .agg [.lit (.int .u8 r.kd), .lit (.string r.key), dV, .lit (.int .i64 r.n), .lit (.bool r.on)] ∧ ReadV r.v.k r.v.S r.v.d dV
structure OpPre (w : World) (r : OpR) : Prop where
  kd : 0 ≤ r.kd ∧ r.kd ≤ 255
  n : -9223372036854775808 ≤ r.n ∧ r.n ≤ 9223372036854775807
  v : VArg w r.v.k r.v.S r.v.ql r.v.nl r.v.cl r.v.qh r.v.nh r.v.ch r.v.qz r.v.nz r.v.cz r.v.d
theorem one_op (fuel : Nat) (cs : List Value) (x : DataW H × List MemPlace) (hf : DataW.trod enc Try.prog W 0 (fun _ => true) true fuel opE.ty cs = some x) : ∃ r : OpR, cs = opE.enc r ∧ OpRd r x.1 ∧ OpPre W r := by
  obtain ⟨xs, m, -, hx, hcs, hl, hel⟩ := DataW.trod_struct Try.underlying37 hf
  rw [c_op] at hcs
  obtain ⟨v1, v2, v3, v4, v5, v6, v7, v8, v9, rfl⟩ := nine_list hcs
  match xs, hl with
  | [y0, y1, y2, y3, y4], _ =>
    have e0 := hel 0 _ rfl
    have e1 := hel 1 _ rfl
    have e2 := hel 2 _ rfl
    have e3 := hel 3 _ rfl
    have e4 := hel 4 _ rfl
    simp only [List.getElem_toArray, List.getElem_cons_zero, List.getElem_cons_succ, c_u8, c_str, c_val, c_int, c_bool] at e0 e1 e2 e3 e4
    simp at e0 e1 e2 e3 e4
    obtain ⟨kd, h0, rfl, hw⟩ := DataW.trod_int Try.underlying5 e0
    obtain ⟨K, h1, rfl, -⟩ := DataW.trod_string Try.underlying9 e1
    obtain ⟨k, S, ql, nl, cl, qh, nh, ch, qz, nz, cz, dv, h2, hV, hRd⟩ := read_v e2
    obtain ⟨n, h3, rfl, hn⟩ := DataW.trod_int Try.underlying3 e3
    obtain ⟨on, h4, rfl⟩ := DataW.trod_bool Try.underlying4 e4
    simp at h0 h1 h2 h3 h4 hx
    obtain ⟨rfl, rfl, rfl, rfl, rfl⟩ := h2
    subst h0 h1 h3 h4
    refine ⟨⟨kd, K.data.toList, ⟨k, S, ql, nl, cl, qh, nh, ch, qz, nz, cz, dv⟩, n, on⟩, ?_, ⟨y2.1, by rw [hx], hRd⟩, bounds_u8 hw, bounds_i64 hn, hV⟩
    show _ = [Value.int .u8 kd, .string ⟨K.data.toList.toArray⟩, .int .u8 k, .string S, .slice ql nl cl, .slice qh nh ch, .slice qz nz cz, .int .i64 n, .bool on]
    rw [bytes_back]
theorem open_op (hval : Value.okWide Try.prog W .any base 22 v) (h : DataW.Trod enc Try.prog W 0 (fun _ => true) true 22 v d p) :
    ∃ (q : Option Addr) (L : List OpR) (cap : Nat), v = .slice q L.length cap ∧ Rs opE W q L ∧ L.length ≤ cap ∧ cap ≤ 9223372036854775807 ∧ (∀ r ∈ L, OpPre W r) ∧ RowRel OpRd L d := by
  obtain ⟨a1, len, cap, rfl⟩ := okWide_slice Try.underlying22 hval
  obtain ⟨fuel, hf⟩ := h
  obtain ⟨q, L, c, hcs, h1⟩ := read_rel opE c_op OpRd (OpPre W) one_op (show DataW.trod enc Try.prog W 0 (fun _ => true) true fuel opE.slt _ = some _ from hf)
  simp [Value.cells] at hcs
  obtain ⟨rfl, rfl, rfl⟩ := hcs
  exact ⟨_, L, _, rfl, h1⟩
theorem size_op {ts : List TypeId} {ds : List (DataW H)} (h : (DataW.weightsEach Try.prog ts ds).all (· ≤ reachBytes) = true) {L : List OpR} {dd : DataW H} (j : Nat) (ht : ts[j]? = some 22) (hd : ds[j]? = some dd) (hr : RowRel OpRd L dd) (hp : ∀ r ∈ L, OpPre W r) : ∀ r ∈ L, r.Ok W := by
  intro r hmem
  obtain ⟨i, hi, rfl⟩ := List.getElem_of_mem hmem
  have hpr := hp _ hmem
  rcases hr with ⟨-, rfl⟩ | ⟨els, sp, rfl, hel⟩
  · simp at hi
  · obtain ⟨y, h1, dV, rfl, dL, dH, dZ, rfl, -⟩ := hel i hi
    have hin : ∀ n, n ∈ DataW.weights (H := H) Try.prog 37 (.agg [.lit (.int .u8 L[i].kd), .lit (.string L[i].key), .agg [.lit (.int .u8 L[i].v.k), .lit (.string L[i].v.S.data.toList), dL, dH, dZ], .lit (.int .i64 L[i].n), .lit (.bool L[i].on)]) → n ∈ DataW.weightsEach Try.prog ts ds := fun n hn => DataW.weights_mem_each ht hd n (by
      have h2 := StrT.weights_all (P := Try.prog) (e := 37) els _ (List.mem_of_getElem? h1) n hn
      simp only [DataW.weights, Try.underlying22]
      exact List.mem_cons_of_mem _ (List.mem_append.2 (Or.inl h2)))
    have hle : ∀ n, n ∈ DataW.weightsEach Try.prog ts ds → n ≤ 140737488351232 := fun n hn => by
      have h1 := List.all_eq_true.1 h _ hn
      have e3 : reachBytes = 140737488351232 := by decide
      rw [decide_eq_true_eq, e3] at h1
      exact h1
    refine ⟨hpr.kd, hpr.n, hpr.v, ?_, hle _ (hin _ ?_)⟩
    · have ea : L[i].v.S.data.toList.length = L[i].v.S.size := by simp
      rw [← ea]
      refine hle _ (hin _ ?_)
      simp [DataW.weights, DataW.weightsEach, Try.underlying37, Try.underlying35]
    · simp [DataW.weights, DataW.weightsEach, Try.underlying37]
end

end Go.Proofs.Ytbcjgkedlapmhaa.StoL
