/-
  Maps at texts, told as functions: what each key has. Elements of whatever type; over the library's word for a map that reads as a datum. Then maps that may be nil, and what is done to one, at the operation.
-/
import Derived.Test.YtbcjgkedlapmhaaKit
import Derived.Test.YtbcjgkedlapmhaaChecked
import Derived.Maps.RangeWalk
import Derived.Sort.KeysCollected
namespace Go.Proofs.Ytbcjgkedlapmhaa.MapF
open Go.RowKit Kit
open Go.Maps (Keyed IsMap)
open Go.ChangeMaps Go.MapKept
open Go.WideElems (Fit rd rg rd_key rg_of)
set_option linter.unusedVariables false
set_option maxRecDepth 100000

abbrev DW := DataW Value
abbrev FnV := List UInt8 → Option Value
/-- An element is read as it stands. -/
def anyV (v : Value) : Option (DW × List MemPlace) := some (.held v, [])
def lk (D : DW) (x : List UInt8) : Option DW := match D with | .map es => (es.find? fun p => p.1.sameKey (.string x)).map (·.2) | _ => none
def upd (f : FnV) (k : List UInt8) (v : Option Value) : FnV := fun x => if x = k then v else f x
theorem law : Keyed Try.prog 9 := Go.Maps.string_keyed Try.underlying9
theorem key_lit (x : List UInt8) : WideAt.IsKeyLit (.string x) := trivial
theorem lit_ne {x k : List UInt8} (h : x ≠ k) : (Lit.string x) ≠ .string k := fun e => h (by injection e)
theorem same_str (x k : List UInt8) : (Lit.string x).sameKey (.string k) = decide (x = k) := by
  show (x == k) = _
  by_cases h : x = k <;> simp [h]
theorem lk_put {D : DW} (hD : IsMap D) (k x : List UInt8) (d : DW) : lk (D.put (.string k) d) x = if x = k then some d else lk D x := by
  obtain ⟨es, rfl⟩ := hD
  show ((DataW.insert (.string k, d) (es.filter fun p => !p.1.sameKey (.string k))).find? (fun p => p.1.sameKey (.string x))).map (·.2) = _
  by_cases h : x = k
  · subst h
    rw [Go.Maps.find_insert_hit (f := fun p => p.1.sameKey (.string x)) (WideAt.sameKey_self (key_lit x)) _ (fun p hp => by simpa using (List.mem_filter.1 hp).2), if_pos rfl]
    rfl
  · rw [Go.Maps.find_insert_miss (f := fun p => p.1.sameKey (.string x)) (Go.Maps.sameKey_ne (lit_ne h).symm), Go.Maps.find_filter_keep (Go.Maps.keep_other (lit_ne h)), if_neg h]
    rfl
theorem lk_del (D : DW) (k x : List UInt8) : lk (D.del (.string k)) x = if x = k then none else lk D x := by
  cases D
  case map es =>
    show ((es.filter fun p => !p.1.sameKey (.string k)).find? (fun p => p.1.sameKey (.string x))).map (·.2) = _
    by_cases h : x = k
    · subst h
      rw [List.find?_eq_none.2 (fun p hp => by simpa using (List.mem_filter.1 hp).2), if_pos rfl]
      rfl
    · rw [Go.Maps.find_filter_keep (Go.Maps.keep_other (lit_ne h)), if_neg h]
      rfl
  all_goals
    show none = _
    split <;> rfl
theorem lk_at (D : DW) (x : List UInt8) (z : DW) : D.atKey (.string x) z = (lk D x).getD z := by
  cases D
  case map es =>
    unfold DataW.atKey lk
    cases h : es.find? (fun p => p.1.sameKey (.string x)) <;> simp [h]
  all_goals rfl
theorem lk_has (D : DW) (x : List UInt8) : Go.Maps.has D (.string x) = (lk D x).isSome := by
  cases D
  case map es =>
    show es.any (fun p => p.1.sameKey (.string x)) = ((es.find? fun p => p.1.sameKey (.string x)).map (·.2)).isSome
    rw [Option.isSome_map, Bool.eq_iff_iff, List.any_eq_true, List.find?_isSome]
  all_goals rfl

/-- Block b is a map, of n entries at most, of which each key has what f says. -/
def MF (w : World) (b : Nat) (f : FnV) (n : Nat) : Prop := ∃ D, w.ownsMap Try.prog 9 anyV b n D ∧ ∀ x, lk D x = (f x).map DataW.held
section
variable {w w' : World} {b n : Nat} {f : FnV}
theorem MF.lt (h : MF w b f n) : b < w.heap.size := by
  obtain ⟨D, h, -⟩ := h
  exact h.lt
theorem MF.mono (h : MF w b f n) {m : Nat} (hm : n ≤ m) : MF w b f m := by
  obtain ⟨D, h, h2⟩ := h
  exact ⟨D, h.mono hm, h2⟩
theorem MF.same (h : MF w b f n) (hk : w'.heap[b]? = w.heap[b]?) : MF w' b f n := by
  obtain ⟨D, ⟨es, clock, hb, h1⟩, h2⟩ := h
  exact ⟨D, ⟨es, clock, hk.trans hb, h1⟩, h2⟩
theorem MF.congr (h : MF w b f n) {g : FnV} (hg : ∀ x, f x = g x) : MF w b g n := by
  obtain ⟨D, h1, h2⟩ := h
  exact ⟨D, h1, fun x => by rw [h2, hg]⟩
theorem mf_made (w : World) : MF (w.alloc (.map #[] 0)) w.heap.size (fun _ => none) 0 := ⟨_, World.ownsMap_made w _ _ _, fun x => rfl⟩
theorem own_tight {D : DW} (h : w.ownsMap Try.prog 9 anyV b n D) : w.ownsMap Try.prog 9 anyV b (Go.Maps.size D) D := by
  obtain ⟨es, clock, hb, F, hs, rfl⟩ := h
  exact ⟨es, clock, hb, F, by simp [Go.Maps.size, length_sorted], rfl⟩
/-- The keys of a map, each once. -/
theorem own_keys {D : DW} (h : w.ownsMap Try.prog 9 anyV b n D) : (strKeys D).Nodup ∧ (∀ x, x ∈ strKeys D ↔ (lk D x).isSome = true) ∧ (strKeys D).length = Go.Maps.size D := by
  obtain ⟨es, rfl, hd, -⟩ := h.entries law
  have hstr : ∀ p ∈ es, ∃ s, p.1 = .string s := by
    obtain ⟨es0, clock, hb, F, hs, hD⟩ := h
    injection hD with hD
    intro p hp
    rw [hD] at hp
    obtain ⟨x, hx, rfl⟩ := List.mem_map.1 (mem_sorted.1 hp)
    obtain ⟨y, hy⟩ := F.reads x hx
    rw [rg_of hy]
    have hk := rd_key hy
    rw [keyOf_string Try.underlying9] at hk
    unfold mapKey at hk
    rw [Try.underlying9] at hk
    cases hx : x.key <;> rw [hx] at hk <;> simp at hk
    exact ⟨_, hk.2.symm⟩
  have hmem : ∀ x, x ∈ strKeys (DataW.map es) ↔ ∃ p ∈ es, p.1 = .string x := fun x => by
    show x ∈ es.map (fun p => strOf p.1) ↔ _
    rw [List.mem_map]
    constructor
    · rintro ⟨p, hp, rfl⟩
      obtain ⟨s, hs⟩ := hstr p hp
      exact ⟨p, hp, by rw [hs]; rfl⟩
    · rintro ⟨p, hp, e⟩
      exact ⟨p, hp, by rw [e]; rfl⟩
  refine ⟨?_, fun x => ?_, ?_⟩
  · show (es.map fun p => strOf p.1).Nodup
    unfold List.Nodup
    rw [List.pairwise_map]
    refine hd.imp_of_mem fun {p q} hp hq hne e => hne ?_
    obtain ⟨s, hs⟩ := hstr p hp
    obtain ⟨t, ht⟩ := hstr q hq
    rw [hs, ht] at e ⊢
    show Lit.string s = .string t
    have : s = t := e
    rw [this]
  · rw [hmem, ← lk_has]
    show _ ↔ es.any (fun p => p.1.sameKey (.string x)) = true
    rw [List.any_eq_true]
    constructor
    · rintro ⟨p, hp, e⟩
      exact ⟨p, hp, by rw [e]; exact WideAt.sameKey_self (key_lit x)⟩
    · rintro ⟨p, hp, e⟩
      exact ⟨p, hp, WideAt.sameKey_eq e⟩
  · show (es.map _).length = es.length
    simp
theorem size_of {D : DW} (h : w.ownsMap Try.prog 9 anyV b n D) (hf : ∀ x, lk D x = (f x).map DataW.held) (Ks : List (List UInt8)) (hn : Ks.Nodup) (hk : ∀ x, x ∈ Ks ↔ (f x).isSome = true) : Go.Maps.size D = Ks.length ∧ (strKeys D).Perm Ks := by
  obtain ⟨h1, h2, h3⟩ := own_keys h
  have hp : (strKeys D).Perm Ks := (List.perm_ext_iff_of_nodup h1 hn).2 fun x => by rw [h2, hf, Option.isSome_map, hk]
  exact ⟨by rw [← h3, hp.length_eq], hp⟩
theorem MF.tight (h : MF w b f n) (Ks : List (List UInt8)) (hn : Ks.Nodup) (hk : ∀ x, x ∈ Ks ↔ (f x).isSome = true) : MF w b f Ks.length := by
  obtain ⟨D, h1, h2⟩ := h
  exact ⟨D, by rw [← (size_of h1 h2 Ks hn hk).1]; exact own_tight h1, h2⟩
theorem held_inj {a b : Option Value} (h : a.map DataW.held = b.map (DataW.held (H := Value))) : a = b := by
  cases a <;> cases b <;> simp at h
  · rfl
  · rw [h]
/-! ### What is done to one -/
variable {t e : TypeId}
theorem key_of {K : ByteArray} {k : List UInt8} (hK : K.data.toList = k) (hs : K.size ≤ maxLen) : keyOf Try.prog 9 (.string K) = some (.string k) := by
  rw [keyOf_string Try.underlying9]
  unfold mapKey
  rw [Try.underlying9]
  simp [hs, hK]
theorem MF.look (h : MF w b f n) (ht : Try.prog.underlying t = some (.map 9 e)) {z : Value} (hz : (zeroValue e).run Try.prog w = .ok z w) {K : ByteArray} {k : List UInt8} (hK : K.data.toList = k) (hs : K.size ≤ maxLen) :
    (Instr.lookup t (.map (some b)) (.string K) false).run Try.prog w = .ok ((f k).getD z) w ∧ (Instr.lookup t (.map (some b)) (.string K) true).run Try.prog w = .ok (.tuple #[(f k).getD z, .bool (f k).isSome]) w := by
  obtain ⟨D, h1, h2⟩ := h
  have hat : D.atKey (.string k) (.held z) = .held ((f k).getD z) := by
    rw [lk_at, h2]
    cases f k <;> rfl
  constructor
  · obtain ⟨v, ps, hr, hv⟩ := h1.lookup law ht hz (zd := .held z) (zp := []) rfl (key_of hK hs)
    rw [hat] at hv
    injection hv with hv
    injection hv with hv
    injection hv with hv
    rw [hr, hv]
  · obtain ⟨v, ps, hr, hv⟩ := h1.look_ok law ht hz (zd := .held z) (zp := []) rfl (key_of hK hs)
    rw [hat] at hv
    injection hv with hv
    injection hv with hv
    injection hv with hv
    rw [hr, hv, lk_has, h2, Option.isSome_map]
theorem MF.drop (h : MF w b f n) (ht : Try.prog.underlying t = some (.map 9 e)) {K : ByteArray} {k : List UInt8} (hK : K.data.toList = k) (hs : K.size ≤ maxLen) (ty : TypeId) :
    ∃ w', (Builtin.delete_ #[t, 9] ty #[.map (some b), .string K]).run Try.prog w = .ok (.tuple #[]) w' ∧ MF w' b (upd f k none) n ∧ w.mapTurned w' b := by
  obtain ⟨D, h1, h2⟩ := h
  obtain ⟨w', hr, h3, h4⟩ := h1.drop law ht (key_of hK hs) ty
  refine ⟨w', hr, ⟨_, h3, fun x => ?_⟩, h4⟩
  rw [lk_del]
  unfold upd
  split
  · rfl
  · exact h2 x
theorem MF.store (h : MF w b f n) (ht : Try.prog.underlying t = some (.map 9 e)) (hn : n < maxLen) {K : ByteArray} {k : List UInt8} (hK : K.data.toList = k) (hs : K.size ≤ maxLen) (v : Value) :
    ∃ w', (Instr.mapUpdate t (.map (some b)) (.string K) v).run Try.prog w = .ok () w' ∧ MF w' b (upd f k (some v)) (if (f k).isSome then n else n + 1) ∧ w.mapTurned w' b := by
  obtain ⟨D, h1, h2⟩ := h
  obtain ⟨w', hr, h3, h4⟩ := h1.store law ht hn (key_of hK hs) (val := v) (d := .held v) (ps := []) rfl
  refine ⟨w', hr, ⟨D.put (.string k) (.held v), ?_, fun x => ?_⟩, h4⟩
  · cases hk : (f k).isSome with
    | false => exact h3
    | true =>
      have h5 := own_tight h3
      rw [Go.Maps.size_put (h1.tidy law), lk_has, h2, Option.isSome_map, hk, if_pos rfl] at h5
      exact h5.mono h1.size_le
  · rw [lk_put h1.isMap]
    unfold upd
    split
    · rfl
    · exact h2 x
theorem MF.len (h : MF w b f n) (ht : Try.prog.underlying t = some (.map 9 e)) (Ks : List (List UInt8)) (hn : Ks.Nodup) (hk : ∀ x, x ∈ Ks ↔ (f x).isSome = true) (ty : TypeId) : (Builtin.len_ #[t] ty #[.map (some b)]).run Try.prog w = .ok (.int .i64 (Ks.length : Int)) w := by
  obtain ⟨D, h1, h2⟩ := h
  rw [h1.len ht ty, (size_of h1 h2 Ks hn hk).1]
theorem MF.clear (h : MF w b f n) (ht : Try.prog.underlying t = some (.map 9 e)) (ty : TypeId) :
    ∃ w', (Builtin.clear_ #[t] ty #[.map (some b)]).run Try.prog w = .ok (.tuple #[]) w' ∧ MF w' b (fun _ => none) 0 ∧ w.mapTurned w' b := by
  obtain ⟨D, ⟨es, clock, hb, F, hs, hD⟩, h2⟩ := h
  refine ⟨setBlock w b (.map #[] clock), ?_, ⟨.map [], ⟨#[], clock, heap_setBlock_same hb _, ⟨by simp, ⟨by simp, by simp⟩, by simp⟩, Nat.zero_le _, rfl⟩, fun x => rfl⟩, ⟨es, clock, #[], clock, hb, rfl⟩⟩
  simp [Builtin.clear_, run_underlying ht, MapKept.run_getObj_map hb, MapKept.run_setObj_map _ hb, Result.andThen, setBlock]
end

end Go.Proofs.Ytbcjgkedlapmhaa.MapF
namespace Go.Proofs.Ytbcjgkedlapmhaa.MapF
open Go.RowKit Kit
open Go.Maps (Keyed IsMap)
open Go.ChangeMaps Go.MapKept
set_option linter.unusedVariables false
set_option maxRecDepth 100000

/-- A text as a key: its bytes, and that it is short. -/
def KeyIs (K : ByteArray) (k : List UInt8) : Prop := (K.data.toList, decide (K.size ≤ maxLen)) = (k, true)
theorem KeyIs.eq {K : ByteArray} {k : List UInt8} (h : KeyIs K k) : K.data.toList = k := congrArg Prod.fst h
theorem KeyIs.sz {K : ByteArray} {k : List UInt8} (h : KeyIs K k) : K.size ≤ maxLen := by
  have h1 := congrArg Prod.snd h
  exact of_decide_eq_true h1
theorem keyIs {K : ByteArray} {k : List UInt8} (h : K.data.toList = k) (hs : K.size ≤ maxLen) : KeyIs K k := by
  unfold KeyIs
  rw [h, decide_eq_true hs]
variable {α : Type}
def updO (F : List UInt8 → Option α) (k : List UInt8) (v : Option α) : List UInt8 → Option α := fun x => if x = k then v else F x
/-- A map that may be nil. -/
def MO (enc : α → Value) (w : World) (m : Option Nat) (F : List UInt8 → Option α) (n : Nat) : Prop := match m with
  | none => ∀ x, F x = none
  | some b => MF w b (fun x => (F x).map enc) n
/-- Nothing but that map has changed. -/
def TO (w w' : World) (m : Option Nat) : Prop := match m with
  | none => w' = w
  | some b => w.mapTurned w' b
variable {enc : α → Value} {w w' : World} {m : Option Nat} {F G : List UInt8 → Option α} {n : Nat}
theorem upd_map (F : List UInt8 → Option α) (k : List UInt8) (v : Option α) (x : List UInt8) : upd (fun x => (F x).map enc) k (v.map enc) x = (updO F k v x).map enc := by
  unfold upd updO
  split <;> rfl
theorem MO.lt (h : MO enc w m F n) : ∀ b, m = some b → b < w.heap.size := by
  rintro b rfl
  exact MF.lt h
theorem MO.mono (h : MO enc w m F n) {k : Nat} (hk : n ≤ k) : MO enc w m F k := by
  cases m with
  | none => exact h
  | some b => exact MF.mono h hk
theorem MO.same (h : MO enc w m F n) (hk : ∀ b, m = some b → w'.heap[b]? = w.heap[b]?) : MO enc w' m F n := by
  cases m with
  | none => exact h
  | some b => exact MF.same h (hk b rfl)
theorem MO.congr (h : MO enc w m F n) (hg : ∀ x, F x = G x) : MO enc w m G n := by
  cases m with
  | none => exact fun x => by rw [← hg]; exact h x
  | some b => exact MF.congr h (fun x => by rw [hg])
theorem MO.tight (h : MO enc w m F n) (Ks : List (List UInt8)) (hn : Ks.Nodup) (hk : ∀ x, x ∈ Ks ↔ (F x).isSome = true) : MO enc w m F Ks.length := by
  cases m with
  | none => exact h
  | some b => exact MF.tight h Ks hn (fun x => by rw [hk, Option.isSome_map])
theorem MO.there (h : MO enc w m F n) {k : List UInt8} (hk : (F k).isSome = true) : ∃ b, m = some b := by
  cases m with
  | none => rw [h k] at hk; cases hk
  | some b => exact ⟨b, rfl⟩
theorem turned_other {b : Nat} (h : w.mapTurned w' b) : ∀ k, k ≠ b → w'.heap[k]? = w.heap[k]? := by
  obtain ⟨es, clock, es', clock', hb, rfl⟩ := h
  exact fun k hk => heap_setBlock_other hb _ hk
theorem TO.other (h : TO w w' m) : ∀ k, m ≠ some k → w'.heap[k]? = w.heap[k]? := by
  cases m with
  | none => subst h; exact fun k _ => rfl
  | some b => exact fun k hk => turned_other h k (fun e => hk (by rw [e]))
theorem TO.size (h : TO w w' m) : w'.heap.size = w.heap.size := by
  cases m with
  | none => rw [show w' = w from h]
  | some b =>
    obtain ⟨es, clock, es', clock', hb, rfl⟩ := h
    simp [setBlock]
theorem TO.os (h : TO w w' m) : w'.os = w.os ∧ w'.tape = w.tape ∧ w'.output = w.output := by
  cases m with
  | none => rw [show w' = w from h]; exact ⟨rfl, rfl, rfl⟩
  | some b =>
    obtain ⟨es, clock, es', clock', hb, rfl⟩ := h
    exact ⟨rfl, rfl, rfl⟩
theorem MO.look {t e : TypeId} (h : MO enc w m F n) (ht : Try.prog.underlying t = some (.map 9 e)) {z : Value} (hz : (zeroValue e).run Try.prog w = .ok z w) {K : ByteArray} {k : List UInt8} (hK : KeyIs K k) :
    (Instr.lookup t (.map m) (.string K) false).run Try.prog w = .ok (((F k).map enc).getD z) w ∧ (Instr.lookup t (.map m) (.string K) true).run Try.prog w = .ok (.tuple #[((F k).map enc).getD z, .bool (F k).isSome]) w := by
  cases m with
  | none => rw [show F k = none from h k]; exact ⟨Go.Maps.look_nil false law ht hz (key_of hK.eq hK.sz), Go.Maps.look_nil true law ht hz (key_of hK.eq hK.sz)⟩
  | some b =>
    have h1 := MF.look h ht hz hK.eq hK.sz
    rw [Option.isSome_map] at h1
    exact h1
theorem MO.drop {t e : TypeId} (h : MO enc w m F n) (ht : Try.prog.underlying t = some (.map 9 e)) {K : ByteArray} {k : List UInt8} (hK : KeyIs K k) (ty : TypeId) :
    ∃ w', (Builtin.delete_ #[t, 9] ty #[.map m, .string K]).run Try.prog w = .ok (.tuple #[]) w' ∧ MO enc w' m (updO F k none) n ∧ TO w w' m := by
  cases m with
  | none => exact ⟨w, Go.Maps.drop_nil law ht (key_of hK.eq hK.sz) ty, fun x => by unfold updO; split; rfl; exact h x, rfl⟩
  | some b =>
    obtain ⟨w', h1, h2, h3⟩ := MF.drop h ht hK.eq hK.sz ty
    exact ⟨w', h1, MF.congr h2 (fun x => upd_map F k none x), h3⟩
theorem MO.store {t e : TypeId} {b : Nat} (h : MO enc w (some b) F n) (ht : Try.prog.underlying t = some (.map 9 e)) (hn : n < maxLen) {K : ByteArray} {k : List UInt8} (hK : KeyIs K k) (v : α) :
    ∃ w', (Instr.mapUpdate t (.map (some b)) (.string K) (enc v)).run Try.prog w = .ok () w' ∧ MO enc w' (some b) (updO F k (some v)) (if (F k).isSome then n else n + 1) ∧ TO w w' (some b) := by
  obtain ⟨w', h1, h2, h3⟩ := MF.store h ht hn hK.eq hK.sz (enc v)
  rw [Option.isSome_map] at h2
  exact ⟨w', h1, MF.congr h2 (fun x => upd_map F k (some v) x), h3⟩
theorem MO.len {t e : TypeId} (h : MO enc w m F n) (ht : Try.prog.underlying t = some (.map 9 e)) (Ks : List (List UInt8)) (hn : Ks.Nodup) (hk : ∀ x, x ∈ Ks ↔ (F x).isSome = true) (ty : TypeId) : (Builtin.len_ #[t] ty #[.map m]).run Try.prog w = .ok (.int .i64 (Ks.length : Int)) w := by
  cases m with
  | none =>
    have : Ks = [] := by
      cases Ks with
      | nil => rfl
      | cons a L =>
        have := (hk a).1 (by simp)
        rw [h a] at this
        cases this
    rw [this]
    exact Go.Maps.len_nil ht ty
  | some b => exact MF.len h ht Ks hn (fun x => by rw [hk, Option.isSome_map]) ty
theorem MO.clear {t e : TypeId} (h : MO enc w m F n) (ht : Try.prog.underlying t = some (.map 9 e)) (ty : TypeId) :
    ∃ w', (Builtin.clear_ #[t] ty #[.map m]).run Try.prog w = .ok (.tuple #[]) w' ∧ MO enc w' m (fun _ => none) n ∧ TO w w' m := by
  cases m with
  | none => exact ⟨w, by simp [Builtin.clear_, run_underlying ht], fun x => rfl, rfl⟩
  | some b =>
    obtain ⟨w', h1, h2, h3⟩ := MF.clear h ht ty
    exact ⟨w', h1, (MF.congr h2 (fun x => rfl)).mono (Nat.zero_le _), h3⟩
/-! ### At the operation -/
section
variable {ops : Array Oper} {rest : List Oper} {o : Oper} {a : Act} {Q : Exit → Act → World → Prop} {t e : TypeId}
theorem wpList_look_mo (hg : o.guard = none) (c : Bool) (x y : Operand) (hop : o.op = Op.lookup t x y c) (ht : Try.prog.underlying t = some (.map 9 e)) {z : Value} (hz : (zeroValue e).run Try.prog w = .ok z w)
    (hm : a.eval x = .map m) (h : MO enc w m F n) {K : ByteArray} {k : List UInt8} (hx : a.eval y = .string K) (hK : KeyIs K k) (V : Value) (hV : (if c then .tuple #[((F k).map enc).getD z, .bool (F k).isSome] else ((F k).map enc).getD z) = V)
    (hr : wpList Try.prog ops Q rest (a.put o.dst V) w) : wpList Try.prog ops Q (o :: rest) a w := by
  refine wpList_plain hg fun K' hK' => ?_
  subst hV
  obtain ⟨h1, h2⟩ := h.look ht hz hK
  unfold Oper.wp
  cases c with
  | false =>
    simp [execOp, hop, hm, hx, h1, Result.andThen]
    exact hK' _ _ hr
  | true =>
    simp [execOp, hop, hm, hx, h2, Result.andThen]
    exact hK' _ _ hr
theorem wpList_drop_mo (hg : o.guard = none) (x y : Operand) (hop : o.op = Op.call { callee := Callee.builtin Builtin.delete, args := #[x, y], argTypes := #[t, 9] }) (ht : Try.prog.underlying t = some (.map 9 e))
    (hm : a.eval x = .map m) (h : MO enc w m F n) {K : ByteArray} {k : List UInt8} (hx : a.eval y = .string K) (hK : KeyIs K k)
    (hr : ∀ w', MO enc w' m (updO F k none) n → TO w w' m → wpList Try.prog ops Q rest (a.put o.dst (.tuple #[])) w') : wpList Try.prog ops Q (o :: rest) a w := by
  refine wpList_plain hg fun K' hK' => ?_
  obtain ⟨w', h1, h2, h3⟩ := h.drop ht hK o.type
  unfold Oper.wp
  simp [execOp, hop, resolve, invoke, builtin, hm, hx, h1, Result.andThen]
  exact hK' _ _ (hr w' h2 h3)
theorem wpList_store_mo {b : Nat} (hg : o.guard = none) (x y z : Operand) (hop : o.op = Op.mapUpdate t x y z) (ht : Try.prog.underlying t = some (.map 9 e)) (hn : n < maxLen)
    (hm : a.eval x = .map (some b)) (h : MO enc w (some b) F n) {K : ByteArray} {k : List UInt8} (hx : a.eval y = .string K) (hK : KeyIs K k) (v : α) (hv : a.eval z = enc v)
    (hr : ∀ w', MO enc w' (some b) (updO F k (some v)) (if (F k).isSome then n else n + 1) → TO w w' (some b) → wpList Try.prog ops Q rest (a.put o.dst undef) w') : wpList Try.prog ops Q (o :: rest) a w := by
  refine wpList_plain hg fun K' hK' => ?_
  obtain ⟨w', h1, h2, h3⟩ := h.store ht hn hK v
  unfold Oper.wp
  simp [execOp, hop, hm, hx, hv, h1, Result.andThen]
  exact hK' _ _ (hr w' h2 h3)
theorem wpList_clear_mo (hg : o.guard = none) (x : Operand) (hop : o.op = Op.call { callee := Callee.builtin Builtin.clear, args := #[x], argTypes := #[t] }) (ht : Try.prog.underlying t = some (.map 9 e))
    (hm : a.eval x = .map m) (h : MO enc w m F n)
    (hr : ∀ w', MO enc w' m (fun _ => none) n → TO w w' m → wpList Try.prog ops Q rest (a.put o.dst (.tuple #[])) w') : wpList Try.prog ops Q (o :: rest) a w := by
  refine wpList_plain hg fun K' hK' => ?_
  obtain ⟨w', h1, h2, h3⟩ := h.clear ht o.type
  unfold Oper.wp
  simp [execOp, hop, resolve, invoke, builtin, hm, h1, Result.andThen]
  exact hK' _ _ (hr w' h2 h3)
theorem wpList_len_mo (hg : o.guard = none) (x : Operand) (hop : o.op = Op.call { callee := Callee.builtin Builtin.len, args := #[x], argTypes := #[t] }) (ht : Try.prog.underlying t = some (.map 9 e))
    (hm : a.eval x = .map m) (h : MO enc w m F n) (Ks : List (List UInt8)) (hn : Ks.Nodup) (hk : ∀ x, x ∈ Ks ↔ (F x).isSome = true)
    (hr : wpList Try.prog ops Q rest (a.put o.dst (.int .i64 (Ks.length : Int))) w) : wpList Try.prog ops Q (o :: rest) a w := by
  refine wpList_plain hg fun K' hK' => ?_
  have h1 := h.len ht Ks hn hk o.type
  unfold Oper.wp
  simp [execOp, hop, resolve, invoke, builtin, hm, h1, Result.andThen]
  exact hK' _ _ hr
end

end Go.Proofs.Ytbcjgkedlapmhaa.MapF
