/-
  What a request needs, whole: pure; and as it lies in memory.
-/
import Derived.Test.YtonoelpmmjnpeaaUseMath
import Derived.Test.YtonoelpmmjnpeaaTableMath
import Derived.Test.YtonoelpmmjnpeaaLow
namespace Go.Proofs.Ytonoelpmmjnpeaa.UseT
open Go.RowKit Kit StrT TableMath Low
set_option linter.unusedVariables false
set_option maxRecDepth 100000

/-- A need: the command, keys, whether of all keys, channels. -/
structure Nd where
  cmd : Int
  keys : List U
  ar : Bool
  aw : Bool
  ch : List (List UInt8)
def nd0 : Nd := ⟨0, [], false, false, []⟩
def nKeys : List UInt8 := [107, 101, 121, 115]
def nDbsize : List UInt8 := [100, 98, 115, 105, 122, 101]
def nFlush : List UInt8 := [102, 108, 117, 115, 104, 97, 108, 108]
def nSub : List UInt8 := [115, 117, 98, 115, 99, 114, 105, 98, 101]
def nPub : List UInt8 := [112, 117, 98, 108, 105, 115, 104]
def chansL (name : List UInt8) (args : List (List UInt8)) : List (List UInt8) := if name = nSub then args.drop 1 else if name = nPub then [args.getD 1 []] else []
/-- The need of a command, its words fitting. -/
def needL (name : List UInt8) (args : List (List UInt8)) : Nd := ⟨(findK name : Int), keysL name args, decide (name = nKeys ∨ name = nDbsize), decide (name = nFlush), chansL name args⟩
/-- Whether so many words may be. -/
def okL (name : List UInt8) (n : Nat) : Bool := fitsB (findK name : Int) (n : Int) && !(decide (name = nMset) && decide (n % 2 = 0))
def nameL (args : List (List UInt8)) : List UInt8 := lowL (args.getD 0 [])
/-- What a request needs, and the error. -/
def ofN (args : List (List UInt8)) : Nd :=
  if args = [] then nd0 else if findB (nameL args) = false then nd0 else if okL (nameL args) args.length = false then nd0 else needL (nameL args) args
def ofE (args : List (List UInt8)) : Nat :=
  if args = [] then 2 else if findB (nameL args) = false then 2 else if okL (nameL args) args.length = false then 1 else 0
theorem of_nil : ofN [] = nd0 ∧ ofE [] = 2 := ⟨rfl, rfl⟩
theorem of_none {args : List (List UInt8)} (h : args ≠ []) (h2 : findB (nameL args) = false) : ofN args = nd0 ∧ ofE args = 2 := by simp [ofN, ofE, h, h2]
theorem of_bad {args : List (List UInt8)} (h : args ≠ []) (h2 : findB (nameL args) = true) (h3 : okL (nameL args) args.length = false) : ofN args = nd0 ∧ ofE args = 1 := by simp [ofN, ofE, h, h2, h3]
theorem of_ok {args : List (List UInt8)} (h : args ≠ []) (h2 : findB (nameL args) = true) (h3 : okL (nameL args) args.length = true) : ofN args = needL (nameL args) args ∧ ofE args = 0 := by simp [ofN, ofE, h, h2, h3]
theorem odds_len : ∀ l : List (List UInt8), (odds l).length ≤ l.length
  | [] => Nat.le_refl _
  | [a] => Nat.le_refl _
  | a :: _ :: r => by
    have := odds_len r
    simp only [odds, List.length_cons]
    omega
theorem keysL_len (name : List UInt8) (args : List (List UInt8)) : (keysL name args).length ≤ args.length + 2 := by
  unfold keysL
  have := odds_len (args.drop 1)
  rw [List.length_drop] at this
  split
  · simp
  · split
    · simp
    · split
      · simp
      · split
        · simp
        · split
          · simp
          · split
            · simp; omega
            · split
              · omega
              · simp
theorem keys_few (args : List (List UInt8)) : (ofN args).keys.length ≤ args.length + 2 := by
  unfold ofN
  split
  · exact Nat.zero_le _
  · split
    · exact Nat.zero_le _
    · split
      · exact Nat.zero_le _
      · exact keysL_len _ _
theorem chans_few (args : List (List UInt8)) : (ofN args).ch.length ≤ args.length + 2 := by
  unfold ofN
  split
  · exact Nat.zero_le _
  · split
    · exact Nat.zero_le _
    · split
      · exact Nat.zero_le _
      · show (chansL _ args).length ≤ _
        unfold chansL
        split
        · rw [List.length_drop]; omega
        · split
          · simp
          · simp
/-- Keys that are read, and written. -/
def readsL (L : List U) : List (List UInt8) := (L.filter (·.r)).map (·.key)
def writesL (L : List U) : List (List UInt8) := (L.filter (·.w)).map (·.key)
theorem reads_take (L : List U) (k : Nat) (h : k < L.length) : readsL (L.take (k + 1)) = readsL (L.take k) ++ if L[k].r then [L[k].key] else [] := by
  unfold readsL
  rw [List.take_succ_eq_append_getElem h, List.filter_append, List.map_append]
  cases hr : L[k].r <;> simp [hr]
theorem writes_take (L : List U) (k : Nat) (h : k < L.length) : writesL (L.take (k + 1)) = writesL (L.take k) ++ if L[k].w then [L[k].key] else [] := by
  unfold writesL
  rw [List.take_succ_eq_append_getElem h, List.filter_append, List.map_append]
  cases hr : L[k].w <;> simp [hr]
theorem reads_len (L : List U) : (readsL L).length ≤ L.length := by
  unfold readsL
  rw [List.length_map]
  exact List.length_filter_le _ _
theorem writes_len (L : List U) : (writesL L).length ≤ L.length := by
  unfold writesL
  rw [List.length_map]
  exact List.length_filter_le _ _

/-- What was answered: texts in new memory. -/
def AnsS (base : Nat) (w : World) (v : Value) (L : List (List UInt8)) : Prop :=
  ∃ q c, v = .slice q L.length c ∧ Ss w q L ∧ (∀ a, q = some a → base ≤ a.block) ∧ L.length ≤ c ∧ c ≤ 9223372036854775807 ∧ (q = none → c = 0)
theorem AnsS.keep {base : Nat} {w w' : World} {v : Value} {L : List (List UInt8)} (h : AnsS base w v L) (hb : Below w.heap.size w w') : AnsS base w' v L := by
  obtain ⟨q, c, hv, hS, h1⟩ := h
  exact ⟨q, c, hv, hS.keep hb, h1⟩
theorem ansS_low {b b' : Nat} {w : World} {v : Value} {L : List (List UInt8)} (h : AnsS b w v L) (hb : b' ≤ b) : AnsS b' w v L := by
  obtain ⟨q, c, hv, hS, hge, h1⟩ := h
  exact ⟨q, c, hv, hS, fun a ha => Nat.le_trans hb (hge a ha), h1⟩
theorem ansU_low {b b' : Nat} {w : World} {v : Value} {L : List U} (h : AnsU b w v L) (hb : b' ≤ b) : AnsU b' w v L := by
  obtain ⟨q, c, hv, hS, hge, h1⟩ := h
  exact ⟨q, c, hv, hS, fun a ha => Nat.le_trans hb (hge a ha), h1⟩
theorem ownS_ans {base : Nat} {w : World} {v : Value} {L : List (List UInt8)} (h : OwnS base w v L) : AnsS base w v L := by
  rcases id h.2 with ⟨rfl, h0⟩ | ⟨g, cap, cur, rfl, hgb, hh, hc, hm, hsz, htake⟩
  · obtain rfl : L = [] := List.eq_nil_of_length_eq_zero h0
    exact ⟨none, 0, rfl, fun h => absurd h (by simp), (fun a h => by cases h), by simp, by omega, fun _ => rfl⟩
  · unfold maxLen at hm
    refine ⟨_, cap, rfl, fun h0 => ⟨g, 0, rfl, ?_, fun j hj => ?_⟩, (fun a ha => by injection ha with ha; subst ha; exact hgb), hc, by omega, fun h => by cases h⟩
    · rcases Nat.lt_or_ge g w.heap.size with h' | h'
      · exact h'
      · rw [Array.getElem?_eq_none h'] at hh; cases hh
    · rw [Nat.zero_add, World.ownsRow.cellAt h j (by omega), sv_at L j hj]
theorem ownS_new (w W : World) (k : Nat) (hk : k = W.heap.size) (h : w.heap.size ≤ W.heap.size) : OwnS w.heap.size (W.alloc (.cells #[] 9)) (.slice (some ⟨k, 0, none⟩) 0 0) [] := by
  subst hk
  exact World.ownsRow_lit W #[] 0 h (by simp [maxLen]) rfl
theorem ansS_nil (base : Nat) (w : World) : AnsS base w (.slice none 0 0) [] := ⟨none, 0, rfl, (fun h => absurd h (by simp)), (fun a h => by cases h), by simp, by omega, fun _ => rfl⟩
theorem ansU_nil (base : Nat) (w : World) : AnsU base w (.slice none 0 0) [] := ⟨none, 0, rfl, (fun h => absurd h (by simp)), (fun a h => by cases h), by simp, by omega, fun _ => rfl⟩
/-- A need as the machine has it. -/
def NeedA (base : Nat) (w : World) (v : Value) (d : Nd) : Prop := ∃ vk vc, v = .agg #[.int .i64 d.cmd, vk, .bool d.ar, .bool d.aw, vc] ∧ AnsU base w vk d.keys ∧ AnsS base w vc d.ch
theorem NeedA.keep {base : Nat} {w w' : World} {v : Value} {d : Nd} (h : NeedA base w v d) (hb : Below w.heap.size w w') : NeedA base w' v d := by
  obtain ⟨vk, vc, hv, h1, h2⟩ := h
  exact ⟨vk, vc, hv, h1.keep hb, h2.keep hb⟩
theorem needA_low {b b' : Nat} {w : World} {v : Value} {d : Nd} (h : NeedA b w v d) (hb : b' ≤ b) : NeedA b' w v d := by
  obtain ⟨vk, vc, hv, h1, h2⟩ := h
  exact ⟨vk, vc, hv, ansU_low h1 hb, ansS_low h2 hb⟩
theorem need_nil (base : Nat) (w : World) : NeedA base w (.agg #[.int .i64 0, .slice none 0 0, .bool false, .bool false, .slice none 0 0]) nd0 := ⟨_, _, rfl, ansU_nil _ _, ansS_nil _ _⟩
theorem need_parts : (Try.prog.info? 27).map (fun i => (i.zero, i.size)) = some (some (.agg #[.int .i64 0, .slice none 0 0, .bool false, .bool false, .slice none 0 0]), 5) := by kernel_rfl
/-- What Of answers. -/
def OfP (args : List (List UInt8)) (w : World) (e : Ending) (w' : World) : Prop := ∃ v, e = .returned (.tuple #[v, .int .i64 (ofE args : Int)]) ∧ NeedA w.heap.size w' v (ofN args) ∧ Below w.heap.size w w'
def TextsP (L : List (List UInt8)) (w : World) (e : Ending) (w' : World) : Prop := ∃ v, e = .returned v ∧ AnsS w.heap.size w' v L ∧ Below w.heap.size w w'

end Go.Proofs.Ytonoelpmmjnpeaa.UseT
