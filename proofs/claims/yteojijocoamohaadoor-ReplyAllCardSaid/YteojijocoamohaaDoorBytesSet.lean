/-
  bytes.IndexAny and bytes.ContainsAny at the two bytes of a line's end: the set of bytes (rows of more than 8 bytes).
-/
import Derived.Test.YteojijocoamohaaDoorReplyRows
import Derived.Lib.AsciiSet
import Derived.Lib.IndexBytes
import Derived.Deep.WholeRow
import Derived.Laws.Rows
import Derived.Laws.Tables
import Derived.Laws.Strings3
import Derived.Laws.CopyOwn
namespace Go.Proofs.YteojijocoamohaaDoor.BytesA
open Go.RowKit Kit BytesIn ReplyMath ReplyT
set_option linter.unusedVariables false
set_option maxRecDepth 100000

theorem set_info : (Tryd.prog.info? 77).map (fun i => (i.zero, i.size)) = some (some (.agg (Array.replicate 256 (.bool false))), 256) := by kernel_rfl
theorem results_cell_slot {P : Program} {fn : Func} {p q : Tmp} {ty : TypeId} (h : fn.results = #[.cell p ty, .tmp q]) (tmps : Array Value) (w : World) (g : Nat) (t : TypeId) (cs : Array Value) (fr : Nat × Nat) (d : TypeDesc) (v : Value)
    (hp : tmps.getD p undef = .pointer (some ⟨g, 0, none⟩)) (hg : w.heap[g]? = some (.cells cs t fr))
    (hu : P.underlying ty = some d) (hd : (match d with | .struct _ | .array _ _ => true | _ => false) = true) (hi : (P.info? ty).map (·.size) = some cs.size) (hq : tmps.getD q undef = v) :
    (results fn tmps).run P w = .ok (.tuple #[.agg cs, v]) w := by
  have hp' : tmps[p]?.getD undef = .pointer (some ⟨g, 0, none⟩) := by simpa using hp
  have hq' : tmps[q]?.getD undef = v := by simpa using hq
  simp [results, h, hp', hq', asAddr, run_loadVar_row w g t ty cs fr d hg hu hd hi]
theorem should_any (n : Int) (w : World) : Calls Tryd.prog 63 #[.int .i64 n] w fun e w' => e = .returned (.bool (decide (8 < n))) ∧ w' = w := by
  go_enter Tryd.func63, Tryd.ntmps63
  go_wp2_with fail
  go_ret
  exact ⟨rfl, rfl⟩

set_option maxHeartbeats 2000000 in
theorem mkset (S : ByteArray) (w : World) (hs : S.size ≤ 1048576) (ha : ∀ (j : Nat) b, S.data.toList[j]? = some b → b.toNat < 128) :
    Calls Tryd.prog 64 #[.string S] w fun e w' => e = .returned (.tuple #[.agg (Lib.setCells S.data.toList), .bool true]) ∧ Below w.heap.size w w' := by
  have hv := (zero_of_info set_info).1
  have HI := Lib.hid (zero_of_info set_info).2
  have HA := Lib.hid ha
  have HL := Lib.hid (show S.data.toList.length = S.size by simp)
  clear ha
  go_enter Tryd.func64, Tryd.ntmps64
  go_wp2_with fail
  go_loopw [4] (fun i wr => ∃ k : Nat, k ≤ S.size ∧ i = .int .i64 k ∧ Below w.heap.size w wr ∧ Hid (wr.heap[w.heap.size]? = some (.cells (Lib.setCells (S.data.toList.take k)) 77 (0, 0)))) (fun i _ => S.size - (intOf i).toNat)
  case atStart => exact ⟨0, Nat.zero_le _, rfl, below1 _ _, Lib.hid (by rw [List.take_zero, Lib.setCells_nil]; exact heap_alloc_last _ _)⟩
  case round =>
    obtain ⟨k, hk, rfl, hb, HR⟩ := hrel
    clear hv
    by_cases hlt : k < S.size
    · have hcl : S.data.toList[k]? = some S[k] := Lib.data_getElem? S k hlt
      have h128 : (S[k].toNat : Int) < 128 := by have := HA.out k S[k] hcl; omega
      have HN := Lib.hid (show Lib.setCells (S.data.toList.take (k + 1)) = (Lib.setCells (S.data.toList.take k)).setIfInBounds S[k].toNat (.bool true) by
        rw [List.take_add_one, hcl]
        exact Lib.setCells_snoc _ _)
      have hcell : wr.cell? ⟨w.heap.size, S[k].toNat, none⟩ = some (.bool ((S.data.toList.take k).contains S[k])) := by
        rw [cell_of_row _ _ _ _ _ _ HR.out]
        exact Lib.setCells_at _ _
      have hfrz : wr.frozen? ⟨w.heap.size, S[k].toNat, none⟩ = false := frozen_of_row _ _ _ _ _ HR.out
      have hd : ¬ ((128 : Int) ≤ (S[k].toNat : Int)) := by omega
      have hx : (S[k].toNat : Int) < 256 := by omega
      clear hcl
      go_wp2_with fail
      go_roundw
      case rel => exact ⟨k + 1, by omega, by go_num, hb.setCell (Nat.le_refl _) _, Lib.hid (by rw [HN.out]; exact heap_setCell_same _ _ _ _ _ _ HR.out)⟩
      case measure => simp [intOf]; omega
    · have HF := Lib.hid (show wr.heap[w.heap.size]? = some (.cells (Lib.setCells S.data.toList) 77 (0, 0)) by
        have h1 := HR.out
        rw [List.take_of_length_le (by rw [HL.out]; omega)] at h1
        exact h1)
      clear HR
      have HSz := Lib.hid (Lib.setCells_size S.data.toList)
      have HOn := Lib.hid (Lib.setCells_one S.data.toList)
      obtain ⟨C, hC⟩ : ∃ C, C = Lib.setCells S.data.toList := ⟨_, rfl⟩
      rw [← hC] at HF HSz HOn
      have HCC := Lib.hid hC
      clear hC
      have HI2 := Lib.hid (show (Tryd.prog.info? 77).map (·.size) = some C.size by rw [HI.out, HSz.out])
      go_wp2_with (first
        | (with_reducible refine wpList_load_row rfl 77 (.tmp 2) rfl w.heap.size rfl 77 C (0, 0) _ HF.out Tryd.underlying77 rfl HI2.out ?_)
        | (with_reducible refine wpList_store_row rfl 77 (.tmp 2) (.tmp 20) rfl w.heap.size C rfl rfl 77 _ HF.out HI2.out rfl HOn.out ?_))
      exact bodyPost_ret (results_cell_slot rfl _ _ w.heap.size 77 C (0, 0) _ (.bool true) rfl (setRow_heap wr w.heap.size _ _ _ _ HF.out) Tryd.underlying77 rfl HI2.out rfl) rfl ⟨by rw [HCC.out], below_setRow hb (Nat.le_refl _) _⟩

theorem contains_any (b : Nat) (x : UInt8) (v : Bool) (w : World) (hc : w.cell? ⟨b, x.toNat, none⟩ = some (.bool v)) :
    Calls Tryd.prog 65 #[.pointer (some ⟨b, 0, none⟩), .int .u8 (x.toNat : Int)] w fun e w' => e = .returned (.bool v) ∧ w' = w := by
  have hx : (x.toNat : Int) < 256 := by have := UInt8.toNat_lt x; omega
  go_enter Tryd.func65, Tryd.ntmps65
  go_wp2_with fail
  go_ret
  exact ⟨rfl, rfl⟩

/-- What bytes.IndexAny answers here: some place, from 0 on just where there is one of the two bytes. -/
def IdxP (l : List UInt8) (w : World) (e : Ending) (w' : World) : Prop := ∃ i : Int, e = .returned (.int .i64 i) ∧ decide (0 ≤ i) = !clean l ∧ Below w.heap.size w w'
theorem idx_none {l : List UInt8} {w w' : World} (h : clean l = true) (hb : Below w.heap.size w w') : IdxP l w (.returned (.int .i64 (-1))) w' := ⟨-1, rfl, by rw [h]; rfl, hb⟩
theorem clean_part {l : List UInt8} (h : clean l = true) (k : Nat) (hk : k < l.length) : l[k] ≠ 13 ∧ l[k] ≠ 10 := by
  have := List.all_eq_true.1 h l[k] (List.getElem_mem hk)
  simpa using this
theorem idx_at {l : List UInt8} {w w' : World} (k : Nat) (hk : k < l.length) (h : l[k] = 13 ∨ l[k] = 10) (hb : Below w.heap.size w w') : IdxP l w (.returned (.int .i64 (k : Int))) w' := by
  refine ⟨k, rfl, ?_, hb⟩
  have : clean l = false := by
    cases hc : clean l with
    | false => rfl
    | true =>
      have := clean_part hc k hk
      rcases h with h | h
      · exact absurd h this.1
      · exact absurd h this.2
  rw [this]
  simp
theorem clean_more {l : List UInt8} {k : Nat} (h : clean (l.take k) = true) (hk : k < l.length) (h13 : l[k] ≠ 13) (h10 : l[k] ≠ 10) : clean (l.take (k + 1)) = true := by
  rw [List.take_succ_eq_append_getElem hk]
  unfold clean at h ⊢
  rw [List.all_append, h]
  simp [h13, h10]
theorem clean_all {l : List UInt8} {k : Nat} (h : clean (l.take k) = true) (hk : ¬ k < l.length) : clean l = true := by rwa [List.take_of_length_le (by omega)] at h

set_option maxHeartbeats 2000000 in
theorem idx_long (S : ByteArray) (hS : S.data.toList = [13, 10]) (p : Option Addr) (l : List UInt8) (n c : Nat) (w : World) (hn : l.length = n) (hb : Bs w p l) (hc : n ≤ c) (h8 : 8 < n) (hz : n ≤ 1048576) :
    Calls Tryd.prog 52 #[.slice p n c, .string S] w (IdxP l w) := by
  have hv := (zero_of_info set_info).1
  have HI := Lib.hid (zero_of_info set_info).2
  have hemp : S.toList.isEmpty = false := by rw [Lib.toList_data, hS]; rfl
  have hsz : S.size = 2 := by have := Lib.size_eq S; rw [hS] at this; exact this
  have CS := Lib.hid (fun W => mkset S W (by omega) (by rw [hS]; intro j b hj; match j, hj with | 0, hj => (simp at hj; subst hj; decide) | 1, hj => (simp at hj; subst hj; decide) | j + 2, hj => simp at hj))
  rw [hS] at CS
  have d1 : ((n : Int) == 1) = false := beq_eq_false_iff_ne.2 (by omega)
  have d2 : decide ((8 : Int) < (n : Int)) = true := decide_eq_true (by omega)
  obtain ⟨b, off, rfl, hlt, hcl⟩ := hb (by omega)
  have HC := Lib.hid hcl
  have HN := Lib.hid hn
  have HSz := Lib.hid (Lib.setCells_size [13, 10])
  have HOn := Lib.hid (Lib.setCells_one [13, 10])
  have HAt := Lib.hid (fun x => Lib.setCells_at [13, 10] x)
  obtain ⟨C, hC⟩ : ∃ C, C = Lib.setCells [13, 10] := ⟨_, rfl⟩
  rw [← hC] at CS HSz HOn HAt
  have HI2 := Lib.hid (show (Tryd.prog.info? 77).map (·.size) = some C.size by rw [HI.out, HSz.out])
  have HR := Lib.hid (show (Array.replicate 256 (Value.bool false)).size = C.size by rw [HSz.out, Array.size_replicate])
  clear hC hS hb hcl hn
  go_enter Tryd.func52, Tryd.ntmps52
  go_wp2_with (go_at_call 63; with_reducible refine (should_any _ _).mono ?_; rintro e w' ⟨rfl, rfl⟩)
  refine (CS.out _).mono ?_
  rintro e w1 ⟨rfl, hb1⟩
  have HT := Lib.hid (heap_alloc_last w1 (.cells (Array.replicate 256 (.bool false)) 77))
  have HB2 := Lib.hid (hb1.alloc hb1.size (.cells (Array.replicate 256 (.bool false)) 77))
  have hs1 := hb1.size
  clear hb1
  go_wp2_with (with_reducible refine wpList_store_row rfl 77 (.tmp 7) (.tmp 57) rfl w1.heap.size C rfl rfl 77 _ HT.out HI2.out HR.out HOn.out ?_)
  have HT2 := Lib.hid (setRow_heap (w1.alloc (.cells (Array.replicate 256 (.bool false)) 77)) w1.heap.size _ C _ _ HT.out)
  have HB3 := Lib.hid (below_setRow HB2.out hs1 C)
  generalize World.setRow _ _ _ = w3 at HT2 HB3 ⊢
  have hs3 := HB3.out.size
  go_loopw [62] (fun i wr => ∃ k : Nat, k ≤ n ∧ i = .int .i64 k ∧ wr = w3 ∧ Hid (clean (l.take k) = true)) (fun i _ => n - (intOf i).toNat)
  case atStart => exact ⟨0, Nat.zero_le _, rfl, rfl, Lib.hid rfl⟩
  case round =>
    obtain ⟨k, hk, rfl, rfl, HCl⟩ := hrel
    by_cases hlk : k < n
    · have hkl : k < l.length := by rw [HN.out]; exact hlk
      obtain ⟨x, hx⟩ : ∃ x, x = l[k] := ⟨_, rfl⟩
      have hcell : wr.cell? ⟨b, off + k, none⟩ = some (.int .u8 (x.toNat : Int)) := by
        rw [hx, HB3.out.cell (p := ⟨b, off + k, none⟩) hlt]
        exact HC.out k hkl
      have hset : wr.cell? ⟨w1.heap.size, x.toNat, none⟩ = some (.bool (([13, 10] : List UInt8).contains x)) := by
        rw [cell_of_row _ _ _ _ _ _ HT2.out]
        exact HAt.out x
      by_cases h13 : x = 13 ∨ x = 10
      · have e : ([13, 10] : List UInt8).contains x = true := by rcases h13 with rfl | rfl <;> rfl
        rw [e] at hset
        have HX := Lib.hid (idx_at k hkl (by rw [← hx]; exact h13) HB3.out)
        have CC := Lib.hid (contains_any w1.heap.size x true wr hset)
        clear e h13 hx hset
        go_wp2_with fail
        refine CC.out.mono ?_
        rintro e w4 ⟨rfl, rfl⟩
        go_wp2_with fail
        go_ret
        exact HX.out
      · have e : ([13, 10] : List UInt8).contains x = false := by
          simp only [not_or] at h13
          simp [h13]
        rw [e] at hset
        simp only [not_or] at h13
        have HX := Lib.hid (clean_more HCl.out hkl (by rw [← hx]; exact h13.1) (by rw [← hx]; exact h13.2))
        have CC := Lib.hid (contains_any w1.heap.size x false wr hset)
        clear e h13 hx hset
        go_wp2_with fail
        refine CC.out.mono ?_
        rintro e w4 ⟨rfl, rfl⟩
        go_wp2_with fail
        go_roundw
        case rel => exact ⟨k + 1, by omega, by go_num, (by trivial), HX⟩
        case measure => simp [intOf]; omega
    · have HX := Lib.hid (idx_none (clean_all HCl.out (by rw [HN.out]; exact hlk)) HB3.out)
      go_wp2_with fail
      go_ret
      exact HX.out

end Go.Proofs.YteojijocoamohaaDoor.BytesA
