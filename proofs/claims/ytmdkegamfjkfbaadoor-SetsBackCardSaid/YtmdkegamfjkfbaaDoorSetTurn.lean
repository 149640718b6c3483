/-
  SetsTurns and SetsBack: texts put in, in whichever order; a value laid over another one in its block.
-/
import Derived.Test.YtmdkegamfjkfbaaDoorSetShown
namespace Go.Proofs.YtmdkegamfjkfbaaDoor.SetL
open Go.RowKit Kit StrT RowG BOrd ValT StoT ReplyT ReplyMath ValM BytesIn DoT Low SetT NumL NumMath SetM SaidT RefR DoV LawK
open Go.Op (bytesLess)
set_option linter.unusedVariables false
set_option maxRecDepth 100000

theorem str_of2 (l : List UInt8) : ∃ S : ByteArray, S.data.toList = l ∧ (⟨l.toArray⟩ : ByteArray) = S := ⟨⟨l.toArray⟩, rfl, rfl⟩
/-- Texts put in, one behind the other. -/
def putT (vl : Nat → List UInt8) (I : List Nat) : List (List UInt8) := addS [] (I.map vl)
theorem put_snoc (vl : Nat → List UInt8) (I : List Nat) (i : Nat) : putT vl (I ++ [i]) = insS (putT vl I) (vl i) := by
  unfold putT
  rw [List.map_append]
  exact add_snoc _ _ _
theorem put_up (vl : Nat → List UInt8) (I : List Nat) : rises (putT vl I) := add_up _ rises_nil
theorem put_len (vl : Nat → List UInt8) (I : List Nat) : (putT vl I).length ≤ I.length := by
  have h := (add_le (I.map vl) rises_nil).2
  simp only [List.length_nil, List.length_map] at h
  unfold putT
  omega
theorem put_mem (vl : Nat → List UInt8) (I : List Nat) (s : List UInt8) : s ∈ putT vl I ↔ ∃ i ∈ I, vl i = s := by
  unfold putT
  rw [add_mem, List.mem_map]
  simp
theorem put_same (vl : Nat → List UInt8) (I J : List Nat) (h : ∀ i, i ∈ I ↔ i ∈ J) : putT vl I = putT vl J :=
  rises_ext (put_up vl I) (put_up vl J) fun s => by
    rw [put_mem, put_mem]
    exact ⟨fun ⟨i, hi, e⟩ => ⟨i, (h i).1 hi, e⟩, fun ⟨i, hi, e⟩ => ⟨i, (h i).2 hi, e⟩⟩
def rotL (a m x : Nat) : List Nat := (List.range x).map (fun i => (i + a) % m)
theorem rot_snoc (a m x : Nat) : rotL a m (x + 1) = rotL a m x ++ [(x + a) % m] := by
  unfold rotL
  rw [List.range_succ, List.map_append]
  rfl
theorem rot_len (a m x : Nat) : (rotL a m x).length = x := by
  unfold rotL
  simp
theorem rot_all (a m : Nat) (hm : 0 < m) (i : Nat) : i ∈ List.range m ↔ i ∈ rotL a m m := by
  unfold rotL
  rw [List.mem_range, List.mem_map]
  constructor
  · intro h
    refine ⟨(i + (m - a % m)) % m, List.mem_range.2 (Nat.mod_lt _ hm), ?_⟩
    rw [Nat.mod_add_mod]
    have h1 : a % m < m := Nat.mod_lt _ hm
    have h2 : m * (a / m) + a % m = a := Nat.div_add_mod a m
    have h3 : i + (m - a % m) + a = i + m * (a / m + 1) := by rw [Nat.mul_add]; omega
    rw [h3, Nat.add_mul_mod_self_left]
    exact Nat.mod_eq_of_lt h
  · rintro ⟨x, -, rfl⟩
    exact Nat.mod_lt _ hm
theorem rot_put (vl : Nat → List UInt8) (a m : Nat) : putT vl (rotL a m m) = putT vl (List.range m) := by
  rcases Nat.eq_zero_or_pos m with h0 | h0
  · subst h0
    rfl
  · exact (put_same vl _ _ (rot_all a m h0)).symm
/-- Texts taken out again. -/
def outT (vl : Nat → List UInt8) (F : List (List UInt8)) (I : List Nat) : List (List UInt8) := remS F (I.map vl)
theorem out_nil (vl : Nat → List UInt8) (F : List (List UInt8)) : outT vl F [] = F := rem_nil F
theorem out_snoc (vl : Nat → List UInt8) (F : List (List UInt8)) (I : List Nat) (i : Nat) : outT vl F (I ++ [i]) = remS (outT vl F I) [vl i] := by
  unfold outT
  rw [List.map_append]
  exact rem_snoc _ _ _
theorem out_all (vl : Nat → List UInt8) (a m : Nat) : outT vl (putT vl (List.range m)) (rotL a m m) = [] := by
  refine rem_all fun s hs => ?_
  rw [← rot_put vl a m] at hs
  obtain ⟨i, hi, e⟩ := (put_mem vl _ s).1 hs
  exact List.mem_map.2 ⟨i, hi, e⟩
theorem add_one (L : List (List UInt8)) (s : List UInt8) : rowD 0 L [s] = (insS L s, (rowD 0 L [s]).2) := rfl
theorem add_two {L : List (List UInt8)} (h : rises L) (s : List UInt8) : rowD 0 L [s, s] = (insS L s, (rowD 0 L [s, s]).2) := by
  have e : (rowD 0 L [s, s]).1 = insS L s := ins_in (ins_up s h) ((ins_mem s s L).2 (Or.inl rfl))
  rw [← e]
theorem rem_row (L : List (List UInt8)) (s : List UInt8) : rowD 1 L [s] = (remS L [s], (rowD 1 L [s]).2) := rfl
/-- What is cut to 20 bytes. -/
theorem cut20 {S V : ByteArray} (h : V = if S.size ≤ 20 then S else S.extract 0 20) : V.data.toList = S.data.toList.take 20 := by
  subst h
  split
  · rename_i h
    rw [List.take_of_length_le (by rw [str_len]; exact h)]
  · simp [ByteArray.data_extract]
/-- A value laid over another one in its block; all other old blocks are as they were. -/
structure Trn (w wr wx : World) (ga : Nat) (p : PV) (d : V) : Prop where
  v : VB wx ga p
  e : p.d = d
  n : ∀ j, p.at_ j → wr.heap.size ≤ j
  o : ∀ j, j < wr.heap.size → j ≠ ga → wx.heap[j]? = wr.heap[j]?
  s : wr.heap.size ≤ wx.heap.size
  b : Below w.heap.size w wx
theorem trn_five {w wr w5 : World} {ga : Nat} {p0 p : PV} {d : V} (hK : VB w5 ga p0) (hI : p.In w5) (hd : p.d = d) (hn : ∀ j, p.at_ j → wr.heap.size ≤ j) (hb : Below wr.heap.size wr w5) (hB : Below w.heap.size w wr) (hga : w.heap.size ≤ ga) (hlt : ga < wr.heap.size) :
    Trn w wr (five w5 ga (.int .u8 p.k) (.string p.S) (.slice p.ql p.nl p.cl) (.slice p.qh p.nh p.ch) (.slice p.qz p.nz p.cz)) ga p d :=
  ⟨VB.five hK hI (fun j hj => by have := hn j hj; omega), hd, hn, fun j hj hne => (five_other _ _ _ _ _ _ _ _ hne).trans (hb.block j hj), by simpa [five] using hb.size, five_below (hB.trans (hb.mono hB.size)) hga _ _ _ _ _⟩
theorem trn_row {w wr w5 : World} {ga : Nat} {p0 p : PV} {d : V} (hK : VB w5 ga p0) (hI : p.In w5) (hd : p.d = d) (hn : ∀ j, p.at_ j → wr.heap.size ≤ j) (hb : Below wr.heap.size wr w5) (hB : Below w.heap.size w wr) (hga : w.heap.size ≤ ga) (hlt : ga < wr.heap.size) :
    Trn w wr (w5.setRow ga #[.int .u8 p.k, .string p.S, .slice p.ql p.nl p.cl, .slice p.qh p.nh p.ch, .slice p.qz p.nz p.cz]) ga p d :=
  ⟨VB.put hK hI (fun j hj => by have := hn j hj; omega), hd, hn, fun j hj hne => (setRow_other _ _ _ _ hne).trans (hb.block j hj), by simpa using hb.size, below_setRow (hB.trans (hb.mono hB.size)) hga _⟩
theorem Trn.vb {w wr wx : World} {ga gb : Nat} {p r : PV} {d : V} (h : Trn w wr wx ga p d) (hr : VB wr gb r) (hne : gb ≠ ga) (hro : ∀ j, r.at_ j → j ≠ ga) : VB wx gb r :=
  ⟨(h.o gb hr.lt hne).trans hr.hp, hr.pv.same h.s (fun j hj => h.o j (hr.rows j hj) (hro j hj))⟩
theorem ss_same {w w' : World} {q : Option Addr} {L : List (List UInt8)} (h : StrT.Ss w q L) (hs : w.heap.size ≤ w'.heap.size) (hk : ∀ a, q = some a → a.block < w.heap.size → w'.heap[a.block]? = w.heap[a.block]?) : StrT.Ss w' q L :=
  rs_ss.1 (Rs.same (rs_ss.2 h) hs (fun h0 a ha => hk a ha (by
    obtain ⟨b, off, e, hlt, -⟩ := h h0
    rw [ha] at e
    injection e with e
    subst e
    exact hlt)))
theorem Trn.ss {w wr wx : World} {ga : Nat} {p : PV} {d : V} (h : Trn w wr wx ga p d) {q : Option Addr} {L : List (List UInt8)} (hs : StrT.Ss wr q L) (hq : ∀ a, q = some a → a.block ≠ ga) : StrT.Ss wx q L :=
  ss_same hs h.s (fun a ha hlt => h.o a.block hlt (hq a ha))
theorem ans_else {base : Nat} {w w' : World} {v : Value} {l : List UInt8} (h : Ans base w v l) (hs : w.heap.size ≤ w'.heap.size) (hk : ∀ j, base ≤ j → j < w.heap.size → w'.heap[j]? = w.heap[j]?) : Ans base w' v l := by
  obtain ⟨p, c, hv, hB, hge, h1⟩ := h
  refine ⟨p, c, hv, Bs.same hB hs (fun h0 a ha => hk _ (hge a ha) ?_), hge, h1⟩
  obtain ⟨b, off, e, hlt, -⟩ := hB h0
  rw [ha] at e
  injection e with e
  subst e
  exact hlt
def loopsOf : Code → List Code
  | .loop c => [c]
  | .seq a b => loopsOf a ++ loopsOf b
  | .block _ c => loopsOf c
  | .scope c => loopsOf c
  | .cond _ a b => loopsOf a ++ loopsOf b
  | _ => []

end Go.Proofs.YtmdkegamfjkfbaaDoor.SetL
