/-
  Packed by program.
-/
import Derived.Outline
import Derived.Deep.RegionWith
import Derived.Lib.SlBytesConst
import Derived.Lib.SmallJoins
import Derived.Stop.BytesEq
import Derived.Laws.MakeOwn
import Derived.Deep.RegionLaw
import Derived.Lib.SplitLaws
import Derived.Test.YtpoinibckmbfcaaGreatDoorPk02
import Derived.Test.YtpoinibckmbfcaaGreatDoorPk02
import Derived.Test.YtpoinibckmbfcaaGreatDoorPk02
import Derived.Test.YtpoinibckmbfcaaGreatDoorPk02
namespace Go.Proofs.YtpoinibckmbfcaaGreatDoor.ShaT
open Go.RowKit Kit ShaMath
set_option linter.unusedVariables false
set_option maxRecDepth 100000
theorem turn_val (x n : Nat) (hx : x < 4294967296) (hn : n ≤ 32) :
  bits .or .u32 ((x : Int) / 2 ^ n) ((x : Int) * 2 ^ (32 - n) % 4294967296) = (rot x n : Int) := by
 rw [← rot_or x n hx hn]
 have h1 : (x : Int) / 2 ^ n = ((x / 2 ^ n : Nat) : Int) := by simp
 have h2 : (x : Int) * 2 ^ (32 - n) % 4294967296 = ((x * 2 ^ (32 - n) % 4294967296 : Nat) : Int) := by simp
 rw [h1, h2]
 exact u32_or_nat _ _ (Nat.lt_of_le_of_lt (Nat.div_le_self _ _) hx) (Nat.mod_lt _ (by decide))
def c8 (s : W8) : Array Value := #[.int .u32 s.a, .int .u32 s.b, .int .u32 s.c, .int .u32 s.d, .int .u32 s.e, .int .u32 s.f, .int .u32 s.g, .int .u32 s.h]
theorem bigE_val (e : Nat) (h : e < 4294967296) : bits .xor .u32 (bits .xor .u32 (rot e 6 : Int) (rot e 11 : Int)) (rot e 25 : Int) = (bigE e : Int) := by
 rw [u32_xor_nat _ _ (rot_lt _ _ h (by decide)) (rot_lt _ _ h (by decide)), u32_xor_nat _ _ (xor_lt _ _ (rot_lt _ _ h (by decide)) (rot_lt _ _ h (by decide))) (rot_lt _ _ h (by decide))]
 rfl
theorem bigA_val (e : Nat) (h : e < 4294967296) : bits .xor .u32 (bits .xor .u32 (rot e 2 : Int) (rot e 13 : Int)) (rot e 22 : Int) = (bigA e : Int) := by
 rw [u32_xor_nat _ _ (rot_lt _ _ h (by decide)) (rot_lt _ _ h (by decide)), u32_xor_nat _ _ (xor_lt _ _ (rot_lt _ _ h (by decide)) (rot_lt _ _ h (by decide))) (rot_lt _ _ h (by decide))]
 rfl
theorem u32_not (e : Nat) (h : e < 4294967296) : bits .xor .u32 IntKind.u32.max (e : Int) = ((4294967295 - e : Nat) : Int) := by
 rw [show IntKind.u32.max = ((4294967295 : Nat) : Int) by decide, u32_xor_nat _ _ (by decide) h]
 congr 1
 apply Nat.eq_of_testBit_eq
 intro i
 have h1 : (4294967295 - e).testBit i = (decide (i < 32) && !e.testBit i) := by
  have := Nat.testBit_two_pow_sub_succ (n := 32) (x := e) (by simpa using h) i
  rw [← this]
  congr 1
  omega
 have h2 : (4294967295 : Nat).testBit i = decide (i < 32) := by
  rw [show 4294967295 = 2 ^ 32 - 1 by decide, Nat.testBit_two_pow_sub_one]
 rw [Nat.testBit_xor, h1, h2]
 by_cases hi : i < 32
 · simp [hi]
 · have : e.testBit i = false := Nat.testBit_lt_two_pow (Nat.lt_of_lt_of_le h (by
    have : 2 ^ 32 ≤ 2 ^ i := Nat.pow_le_pow_right (by omega) (by omega)
    simpa using this))
   simp [hi, this]
theorem pick_val (e f g : Nat) (he : e < 4294967296) (hf : f < 4294967296) (hg : g < 4294967296) : bits .or .u32 (bits .and .u32 (e : Int) (f : Int)) (bits .and .u32 (bits .xor .u32 IntKind.u32.max (e : Int)) (g : Int)) = (pick e f g : Int) := by
 rw [u32_not e he, u32_and_nat _ _ he hf, u32_and_nat _ _ (by omega) hg, u32_or_nat _ _ (and_lt _ _ he) (Nat.lt_of_le_of_lt Nat.and_le_right hg)]
 rfl
theorem most_val (a b c : Nat) (ha : a < 4294967296) (hb : b < 4294967296) (hc : c < 4294967296) : bits .or .u32 (bits .or .u32 (bits .and .u32 (a : Int) (b : Int)) (bits .and .u32 (a : Int) (c : Int))) (bits .and .u32 (b : Int) (c : Int)) = (most a b c : Int) := by
 rw [u32_and_nat _ _ ha hb, u32_and_nat _ _ ha hc, u32_and_nat _ _ hb hc, u32_or_nat _ _ (and_lt _ _ ha) (and_lt _ _ ha), u32_or_nat _ _ (or_lt _ _ (and_lt _ _ ha) (and_lt _ _ ha)) (and_lt _ _ hb)]
 rfl
theorem rnd_val (a b c d e f g h kw : Nat) : (Ending.returned (.agg #[.int .u32 (((h : Int) + (bigE e : Int) + (pick e f g : Int) + (kw : Int) + ((bigA a : Int) + (most a b c : Int))) % 4294967296), .int .u32 a, .int .u32 b, .int .u32 c, .int .u32 (((d : Int) + ((h : Int) + (bigE e : Int) + (pick e f g : Int) + (kw : Int))) % 4294967296), .int .u32 e, .int .u32 f, .int .u32 g]) : Ending) = .returned (.agg (c8 (rnd ⟨a, b, c, d, e, f, g, h⟩ kw))) := by
 have e1 : (((h : Int) + (bigE e : Int) + (pick e f g : Int) + (kw : Int) + ((bigA a : Int) + (most a b c : Int))) % 4294967296) = (((tt ⟨a, b, c, d, e, f, g, h⟩ kw + uu ⟨a, b, c, d, e, f, g, h⟩) % 4294967296 : Nat) : Int) := by
  unfold tt uu; simp only [Int.natCast_emod, Int.natCast_add]; omega
 have e2 : (((d : Int) + ((h : Int) + (bigE e : Int) + (pick e f g : Int) + (kw : Int))) % 4294967296) = (((d + tt ⟨a, b, c, d, e, f, g, h⟩ kw) % 4294967296 : Nat) : Int) := by
  unfold tt; simp only [Int.natCast_emod, Int.natCast_add]; omega
 rw [e1, e2]
 rfl
end Go.Proofs.YtpoinibckmbfcaaGreatDoor.ShaT
namespace Go.Proofs.YtpoinibckmbfcaaGreatDoor.ShaT
open Go.RowKit Kit ShaMath
set_option linter.unusedVariables false
set_option maxRecDepth 100000
def Bs (w : World) (p : Option Addr) (l : List UInt8) : Prop :=
 0 < l.length → ∃ b off, p = some ⟨b, off, none⟩ ∧ b < w.heap.size ∧ ∀ j (h : j < l.length), w.cell? ⟨b, off + j, none⟩ = some (.int .u8 (l[j].toNat : Int))
theorem Bs.keep {w w' : World} {p : Option Addr} {l : List UInt8} (h : Bs w p l) (hb : Below w.heap.size w w') : Bs w' p l := by
 intro h0
 obtain ⟨b, off, hp, hlt, hc⟩ := h h0
 exact ⟨b, off, hp, Nat.lt_of_lt_of_le hlt hb.size, fun j hj => by rw [hb.cell (p := ⟨b, off + j, none⟩) hlt]; exact hc j hj⟩
def b64 (l : List UInt8) : List Value := (List.range 64).map fun j => Value.int .u8 (byte l j : Int)
def z64 : List Value := List.replicate 64 (.int .u8 0)
theorem bv_at (l : List UInt8) (j : Nat) (h : j < l.length) : (bv l)[j]? = some (.int .u8 (l[j].toNat : Int)) := by simp [bv, h]
theorem splice_b64 (l : List UInt8) : splice z64 0 (bv (l.take 64)) = b64 l := by
 apply List.ext_getElem?
 intro i
 unfold splice b64 z64
 simp only [List.take_zero, List.nil_append, Nat.zero_add, bv_length, List.length_take]
 by_cases hi : i < 64
 · by_cases h : i < l.length
   · rw [List.getElem?_append_left (by rw [bv_length, List.length_take]; omega)]
     simp [bv, hi, h, byte]
   · rw [List.getElem?_append_right (by rw [bv_length, List.length_take]; omega)]
     have : byte l i = 0 := by simp [byte, List.getD_eq_getElem?_getD, List.getElem?_eq_none (show l.length ≤ i by omega)]
     rw [bv_length, List.length_take, List.getElem?_drop, List.getElem?_replicate, if_pos (by omega)]
     simp [hi, this]
 · rw [List.getElem?_eq_none (by simp [bv_length]; omega), List.getElem?_eq_none (by simp; omega)]
theorem b64_one (l : List UInt8) : (b64 l).toArray.all (·.oneCell') = true := by
 simp [b64, Value.oneCell']
theorem info_b64 : (Tryz.prog.info? 140).map (fun i => (i.zero, i.size)) = some (some (.agg z64.toArray), 64) := by kernel_rfl
end Go.Proofs.YtpoinibckmbfcaaGreatDoor.ShaT
namespace Go.Proofs.YtpoinibckmbfcaaGreatDoor.ShaT
open Go.RowKit Kit ShaMath
set_option linter.unusedVariables false
set_option maxRecDepth 100000
theorem c8_row (s : W8) : c8 s = row .u32 8 s.get := rfl
def tb (s : W8) (i : Nat) : Nat := s.get (i / 4) / 2 ^ (24 - 8 * (i % 4)) % 256
theorem info_32 : (Tryz.prog.info? 89).map (fun i => (i.zero, i.size)) = some (some (.agg (row .u8 32 fun _ => 0)), 32) := by kernel_rfl
theorem size_u32 (w : World) : (sizeOf 167).run Tryz.prog w = .ok 1 w := by kernel_rfl
theorem agg_u32 (w : World) : (isAgg 167).run Tryz.prog w = .ok false w := by kernel_rfl
def ToldRel (s : W8) (w : World) (k : Nat) (wr : World) : Prop :=
 Arr wr (w.heap.size + 1) .u8 32 89 (fun _ => 0) ∧ ∃ f, Arr wr (w.heap.size + 1 + 1) .u8 32 89 f ∧ ∀ j, j < 4 * k → f j = tb s j
theorem tb_at (s : W8) (k i : Nat) (h : i < 4) : tb s (4 * k + i) = s.get k / 2 ^ (24 - 8 * i) % 256 := by
 unfold tb
 rw [show (4 * k + i) / 4 = k by omega, show (4 * k + i) % 4 = i by omega]
theorem told_step {s : W8} {w wr : World} {k : Nat} {f : Nat → Nat} (hR0 : Arr wr (w.heap.size + 1) .u8 32 89 (fun _ => 0)) (hR : Arr wr (w.heap.size + 1 + 1) .u8 32 89 f) (hf : ∀ j, j < 4 * k → f j = tb s j) :
  ToldRel s w (k + 1) ((((wr.setCell ⟨w.heap.size + 1 + 1, 4 * k, none⟩ (.int .u8 ((s.get k : Int) / 16777216 % 256))).setCell ⟨w.heap.size + 1 + 1, 4 * k + 1, none⟩ (.int .u8 ((s.get k : Int) / 65536 % 256))).setCell ⟨w.heap.size + 1 + 1, 4 * k + 2, none⟩ (.int .u8 ((s.get k : Int) / 256 % 256))).setCell ⟨w.heap.size + 1 + 1, 4 * k + 3, none⟩ (.int .u8 ((s.get k : Int) % 256))) := by
 have e0 : (s.get k : Int) / 16777216 % 256 = ((s.get k / 16777216 % 256 : Nat) : Int) := by simp
 have e1 : (s.get k : Int) / 65536 % 256 = ((s.get k / 65536 % 256 : Nat) : Int) := by simp
 have e2 : (s.get k : Int) / 256 % 256 = ((s.get k / 256 % 256 : Nat) : Int) := by simp
 have e3 : (s.get k : Int) % 256 = ((s.get k % 256 : Nat) : Int) := by simp
 rw [e0, e1, e2, e3]
 refine ⟨(((hR0.other _ _ (by simp)).other _ _ (by simp)).other _ _ (by simp)).other _ _ (by simp), _, (((hR.set _ _).set _ _).set _ _).set _ _, fun j hj => ?_⟩
 by_cases h3 : j = 4 * k + 3
 · subst h3; rw [upd_same, tb_at s k 3 (by decide)]; simp
 rw [upd_other _ _ _ _ h3]
 by_cases h2 : j = 4 * k + 2
 · subst h2; rw [upd_same, tb_at s k 2 (by decide)]
 rw [upd_other _ _ _ _ h2]
 by_cases h1 : j = 4 * k + 1
 · subst h1; rw [upd_same, tb_at s k 1 (by decide)]
 rw [upd_other _ _ _ _ h1]
 by_cases h0 : j = 4 * k
 · subst h0; rw [upd_same]; have := tb_at s k 0 (by decide); rw [Nat.add_zero] at this; rw [this]
 rw [upd_other _ _ _ _ h0]
 exact hf j (by omega)
end Go.Proofs.YtpoinibckmbfcaaGreatDoor.ShaT
namespace Go.Proofs.YtpoinibckmbfcaaGreatDoor.ShaT
open Go.RowKit Kit ShaMath
set_option linter.unusedVariables false
set_option maxRecDepth 100000
theorem add_cast (x y : Nat) : ((x : Int) + (y : Int)) % 4294967296 = (((x + y) % 4294967296 : Nat) : Int) := by simp
theorem kw_val (l : List UInt8) (i : Nat) : ((kAt i : Int) + (wAt l i : Int)) % 4294967296 = (kw l i : Int) := add_cast (kAt i) (wAt l i)
theorem row_lit (a b c d e f g h : Nat) : row .u32 8 (W8.get ⟨a, b, c, d, e, f, g, h⟩) = #[.int .u32 a, .int .u32 b, .int .u32 c, .int .u32 d, .int .u32 e, .int .u32 f, .int .u32 g, .int .u32 h] := rfl
theorem blk_get (s : W8) (l : List UInt8) (k : Nat) : (blk s l).get k = (s.get k + (rounds s l 64).get k) % 4294967296 := by
 unfold blk
 exact addW_get _ _ _
theorem blk_val {s r : W8} {l : List UInt8} {f : Nat → Nat} {k : Nat} (hr : r = rounds s l 64) (hf : ∀ j, k ≤ j → f j = s.get j) : IntKind.u32.wrap ((f k : Int) + (r.get k : Int)) = ((blk s l).get k : Int) := by
 rw [IntKind.wrap_u32, blk_get, ← hr, hf k (Nat.le_refl _)]
 exact add_cast _ _
end Go.Proofs.YtpoinibckmbfcaaGreatDoor.ShaT
namespace Go.Proofs.YtpoinibckmbfcaaGreatDoor.ShaT
open Go.RowKit Kit ShaMath
set_option linter.unusedVariables false
set_option maxRecDepth 100000
def UpTo (l : List UInt8) (f : Nat → Nat) (k : Nat) : Prop := ∀ j, j < k → f j = wAt l j
theorem UpTo.next {l : List UInt8} {f : Nat → Nat} {k : Nat} (h : UpTo l f k) : UpTo l (upd f k (wAt l k)) (k + 1) := by
 intro j hj
 by_cases e : j = k
 · subst e; exact upd_same _ _ _
 · rw [upd_other _ _ _ _ e]; exact h j (by omega)
theorem four_or (a b c d : Nat) (ha : a < 256) (hb : b < 256) (hc : c < 256) (hd : d < 256) :
  bits .or .u32 (bits .or .u32 (bits .or .u32 ((a : Int) * 16777216) ((b : Int) * 65536)) ((c : Int) * 256)) (d : Int) = ((a * 16777216 + b * 65536 + c * 256 + d : Nat) : Int) := by
 have e1 : (a : Int) * 16777216 = ((a * 16777216 : Nat) : Int) := by omega
 have e2 : (b : Int) * 65536 = ((b * 65536 : Nat) : Int) := by omega
 have e3 : (c : Int) * 256 = ((c * 256 : Nat) : Int) := by omega
 rw [e1, e2, e3, u32_or_nat _ _ (by omega) (by omega), nat_join 24 (a * 16777216) (b * 65536) (by omega) (by omega),
   u32_or_nat _ _ (by omega) (by omega), nat_join 16 (a * 16777216 + b * 65536) (c * 256) (by omega) (by omega),
   u32_or_nat _ _ (by omega) (by omega), nat_join 8 (a * 16777216 + b * 65536 + c * 256) d (by omega) (by omega)]
theorem word_val (l : List UInt8) (k : Nat) (h : k < 16) :
  bits .or .u32 (bits .or .u32 (bits .or .u32 ((byte l (4 * k) : Int) * 16777216) ((byte l (4 * k + 1) : Int) * 65536)) ((byte l (4 * k + 2) : Int) * 256)) (byte l (4 * k + 3) : Int) = (wAt l k : Int) := by
 rw [wAt_first l k h]
 exact four_or _ _ _ _ (byte_lt _ _) (byte_lt _ _) (byte_lt _ _) (byte_lt _ _)
theorem smallX_val (x : Nat) (h : x < 4294967296) : bits .xor .u32 (bits .xor .u32 (rot x 7 : Int) (rot x 18 : Int)) ((x : Int) / 8) = (smallX x : Int) := by
 rw [show (x : Int) / 8 = ((x / 8 : Nat) : Int) by omega, u32_xor_nat _ _ (rot_lt _ _ h (by decide)) (rot_lt _ _ h (by decide)), u32_xor_nat _ _ (xor_lt _ _ (rot_lt _ _ h (by decide)) (rot_lt _ _ h (by decide))) (by omega)]
 rfl
theorem smallY_val (x : Nat) (h : x < 4294967296) : bits .xor .u32 (bits .xor .u32 (rot x 17 : Int) (rot x 19 : Int)) ((x : Int) / 1024) = (smallY x : Int) := by
 rw [show (x : Int) / 1024 = ((x / 1024 : Nat) : Int) by omega, u32_xor_nat _ _ (rot_lt _ _ h (by decide)) (rot_lt _ _ h (by decide)), u32_xor_nat _ _ (xor_lt _ _ (rot_lt _ _ h (by decide)) (rot_lt _ _ h (by decide))) (by omega)]
 rfl
theorem wrap_add (x y : Nat) : IntKind.u32.wrap ((x : Int) + (y : Int)) = (((x + y) % 4294967296 : Nat) : Int) := by
 rw [IntKind.wrap_u32]
 exact add_cast x y
theorem next_of (l : List UInt8) (i : Nat) (h : 16 ≤ i) (h' : i < 64) : (((smallX (wAt l (i - 15)) + wAt l (i - 7)) % 4294967296 + smallY (wAt l (i - 2))) % 4294967296 + wAt l (i - 16)) % 4294967296 = wAt l i := by
 obtain ⟨m, rfl⟩ : ∃ m, i = m + 16 := ⟨i - 16, by omega⟩
 rw [wAt_next l m (by omega), show m + 16 - 15 = m + 1 by omega, show m + 16 - 7 = m + 9 by omega, show m + 16 - 2 = m + 14 by omega, show m + 16 - 16 = m by omega]
 generalize smallX (wAt l (m + 1)) = a
 generalize wAt l (m + 9) = b
 generalize smallY (wAt l (m + 14)) = c
 generalize wAt l m = d
 omega
end Go.Proofs.YtpoinibckmbfcaaGreatDoor.ShaT
namespace Go.Proofs.YtpoinibckmbfcaaGreatDoor.ShaT
open Go.RowKit Kit ShaMath
set_option linter.unusedVariables false
set_option maxRecDepth 100000
theorem info_b64' : (Tryz.prog.info? 140).map (fun i => (i.zero, i.size)) = some (some (.agg (row .u8 64 fun _ => 0)), 64) := by kernel_rfl
theorem len_val (all k : Nat) : (all : Int) * 8 / 2 ^ (8 * k) % 256 = ((8 * all / 2 ^ (8 * k) % 256 : Nat) : Int) := by
 rw [Nat.mul_comm 8 all]
 simp
def EndTo (f0 : Nat → Nat) (all : Nat) (f : Nat → Nat) (k : Nat) : Prop := ∀ j, j < 64 → f j = if 64 ≤ j + k then endAt f0 all j else f0 j
theorem EndTo.next {f0 f : Nat → Nat} {all k : Nat} (h : EndTo f0 all f k) (hk : k < 8) : EndTo f0 all (upd f (63 - k) (8 * all / 2 ^ (8 * k) % 256)) (k + 1) := by
 intro j hj
 by_cases e : j = 63 - k
 · subst e
   rw [upd_same, if_pos (by omega)]
   unfold endAt
   rw [if_pos (by omega), show 63 - (63 - k) = k by omega]
 · rw [upd_other _ _ _ _ e, h j hj]
   by_cases h1 : 64 ≤ j + k
   · rw [if_pos h1, if_pos (by omega)]
   · rw [if_neg h1, if_neg (by omega)]
theorem EndTo.last {f0 f : Nat → Nat} {all : Nat} (h : EndTo f0 all f 8) (j : Nat) (hj : j < 64) : f j = endAt f0 all j := by
 rw [h j hj]
 by_cases h1 : 64 ≤ j + 8
 · rw [if_pos h1]
 · rw [if_neg h1]
   unfold endAt
   rw [if_neg (by omega)]
end Go.Proofs.YtpoinibckmbfcaaGreatDoor.ShaT
namespace Go.Proofs.YtpoinibckmbfcaaGreatDoor.ShaT
open Go.RowKit Kit ShaMath
set_option linter.unusedVariables false
set_option maxRecDepth 100000
def sumAt (l : List UInt8) : Nat → Nat := tb (sumW l)
theorem Bs.drewN {w : World} {p : Option Addr} {l : List UInt8} (h : Bs w p l) : Bs w.drew p l := h
theorem Bs.next {w : World} {b off c : Nat} {r : List UInt8} (hc : r.length ≤ c) (hb : b < w.heap.size) (h : ∀ j (h : j < r.length), w.cell? ⟨b, off + j, none⟩ = some (.int .u8 (r[j].toNat : Int))) :
  Bs w (if c = 64 then some ⟨b, off, none⟩ else some ⟨b, off + 64, none⟩) (r.drop 64) := by
 intro h0
 rw [List.length_drop] at h0
 refine ⟨b, off + 64, by rw [if_neg (by omega)], hb, fun j hj => ?_⟩
 rw [List.length_drop] at hj
 have := h (64 + j) (by omega)
 rw [show off + 64 + j = off + (64 + j) by omega, this]
 simp
end Go.Proofs.YtpoinibckmbfcaaGreatDoor.ShaT
namespace Go.Proofs.YtpoinibckmbfcaaGreatDoor.ShaT
open Go.RowKit Kit ShaMath
set_option linter.unusedVariables false
theorem size_u8 (w : World) : (Go.sizeOf 5).run Tryz.prog w = .ok 1 w := by kernel_rfl
theorem Bs.take {w : World} {p : Option Addr} {l : List UInt8} (h : Bs w p l) (n : Nat) : Bs w p (l.take n) := by
 intro h0
 rw [List.length_take] at h0
 obtain ⟨b, off, hp, hlt, hc⟩ := h (by omega)
 refine ⟨b, off, hp, hlt, fun j hj => ?_⟩
 rw [List.length_take] at hj
 rw [hc j (by omega)]
 simp
theorem own_bs {w : World} {base n : Nat} {v : Value} {l : List UInt8} (h : w.ownsRow base 5 1 v n (bv l)) : ∃ p c, v = .slice p l.length c ∧ Bs w p l := by
 have hl : l.length = n := by have := h.1; rw [bv_length] at this; omega
 rcases h.2 with ⟨rfl, h0⟩ | ⟨g, cap, cur, rfl, hgb, hh, hc, _, hsz, htake⟩
 · have : l = [] := List.eq_nil_of_length_eq_zero (by omega)
   subst this
   exact ⟨none, 0, rfl, fun h => absurd h (by simp)⟩
 · refine ⟨_, cap, by rw [hl], fun h0 => ⟨g, 0, rfl, ?_, fun j hj => ?_⟩⟩
   · rcases Nat.lt_or_ge g w.heap.size with h' | h'
     · exact h'
     · rw [Array.getElem?_eq_none h'] at hh; cases hh
   · rw [Nat.zero_add, h.cellAt j (by omega)]
     simp [bv, hj]
theorem size_bytes (l : List UInt8) : (⟨l.toArray⟩ : ByteArray).size = l.length := by simp [ByteArray.size]
end Go.Proofs.YtpoinibckmbfcaaGreatDoor.ShaT
namespace Go.Proofs.YtpoinibckmbfcaaGreatDoor.HexW
open Go.RowKit Kit HexMath ShaT
set_option linter.unusedVariables false
set_option maxRecDepth 100000
theorem u8_info : (Tryz.prog.info? 5).map (fun i => (i.zero, i.size, i.bytes)) = some (some (.int .u8 0), 1, 1) := by kernel_rfl
theorem dig_at (n : Nat) (h : n < 16) (w : World) : (Instr.index 9 (.string ⟨#[48, 49, 50, 51, 52, 53, 54, 55, 56, 57, 97, 98, 99, 100, 101, 102]⟩) (.int .u8 (n : Int))).run Tryz.prog w = .ok (.int .u8 ((hexD n).toNat : Int)) w := by
 have key : ∀ n, n < 16 → (⟨#[48, 49, 50, 51, 52, 53, 54, 55, 56, 57, 97, 98, 99, 100, 101, 102]⟩ : ByteArray)[n]? = some (hexD n) := by decide +kernel
 have hsz : (⟨#[48, 49, 50, 51, 52, 53, 54, 55, 56, 57, 97, 98, 99, 100, 101, 102]⟩ : ByteArray).size = 16 := rfl
 have k1 := key n h
 rw [ByteArray.getElem?_lt' _ _ (by rw [hsz]; exact h)] at k1
 injection k1 with k1
 rw [run_index_string _ _ _ _ _ Tryz.underlying9, dif_pos ⟨by omega, by rw [hsz]; omega⟩]
 simp only [Int.toNat_natCast, k1]
theorem step_append_own {P : Program} {w : World} {ops : Array Oper} {o : Oper} {a : Act} {K : Act → World → Prop} {Q : Exit → Act → World → Prop} {E : Prop} (hgd : o.guard = none) (s x : Operand) (t : TypeId)
    (ho : o.op = .call { callee := .builtin .append, args := #[s, x], argTypes := #[t, t] })
    (base : Nat) (e : TypeId) (i : TypeInfo) (z : Value) (size bytes : Nat) (ht : P.underlying t = some (.slice e)) (hi : P.info? e = some i) (hz : i.zero = some z)
    (hsize : i.size = size) (hby : i.bytes = bytes) (hzs : z.cells.size = size) (hsz : 0 < size)
    (v : Value) (n : Nat) (xs : List Value) (hs : a.eval s = v) (hown : w.ownsRow base e size v n xs)
    (ad : Addr) (m c : Nat) (news : List Value) (hx : a.eval x = .slice (some ad) m c) (hl : news.length = m * size) (hnews : ∀ j u, news[j]? = some u → w.cell? (ad.add j) = some u) (h1 : ∀ u ∈ news, u.oneCell' = true)
    (h63 : n + m ≤ maxLen) (hbytes : (n + m) * bytes ≤ 140737488355328) (hbase : base ≤ w.heap.size)
    (h : ∀ v' w', w'.ownsRow base e size v' (n + m) (xs ++ news) → w.grownBy w' v.ownBlock → (v' = .slice none 0 0 ↔ v = .slice none 0 0 ∧ m = 0) → K (a.put o.dst v') w') : if Region.wanted o (yielded ops a.tmps) = true then Oper.wp P o a w K Q else E := by
  rw [if_pos (by simp [Region.wanted, hgd])]
  exact wp_append_own w s x t ho base e i z size bytes ht hi hz hsize hby hzs hsz v n xs hs hown ad m c news hx hl hnews h1 h63 hbytes hbase h
theorem two_news (w : World) (c d : Value) (t : TypeId) : ∀ j u, [c, d][j]? = some u → (w.alloc (.cells #[c, d] t)).cell? ((⟨w.heap.size, 0, none⟩ : Addr).add j) = some u := by
 intro j u hj
 match j, hj with
 | 0, hj => simp at hj; subst hj; simp [Addr.add]
 | 1, hj => simp at hj; subst hj; simp [Addr.add]
 | j + 2, hj => simp at hj
theorem own_drew {w : World} {base size n : Nat} {e : TypeId} {v : Value} {xs : List Value} (h : w.ownsRow base e size v n xs) : w.drew.ownsRow base e size v n xs := h
theorem two_news_drew (w : World) (c d : Value) (t : TypeId) : ∀ j u, [c, d][j]? = some u → (w.alloc (.cells #[c, d] t)).drew.cell? ((⟨w.heap.size, 0, none⟩ : Addr).add j) = some u := two_news w c d t
theorem first_below {w wr w1 : World} {o : Obj} {r : Option Nat} (hb : Below w.heap.size w wr) (hbs : w.heap.size ≤ wr.heap.size) (hg : (wr.alloc o).drew.grownBy w1 r) (hr : ∀ k, r = some k → w.heap.size ≤ k) : Below w.heap.size w w1 :=
 ((hb.alloc hbs o).drew).grown hg (by show w.heap.size ≤ (wr.alloc o).heap.size; simp; omega) hr
end Go.Proofs.YtpoinibckmbfcaaGreatDoor.HexW
namespace Go.Proofs.YtpoinibckmbfcaaGreatDoor.MacM
open Go Kit ShaMath ShaT HexMath
set_option linter.unusedVariables false
def bytesOf (n : Nat) (f : Nat → Nat) : List UInt8 := (List.range n).map fun j => UInt8.ofNat (f j)
theorem bytesOf_length (n : Nat) (f : Nat → Nat) : (bytesOf n f).length = n := by simp [bytesOf]
theorem bytesOf_at (n : Nat) (f : Nat → Nat) (j : Nat) (h : j < (bytesOf n f).length) : (bytesOf n f)[j] = UInt8.ofNat (f j) := by simp [bytesOf]
theorem sumAt_lt (l : List UInt8) (j : Nat) : sumAt l j < 256 := by unfold sumAt tb; omega
def sumList (l : List UInt8) : List UInt8 := bytesOf 32 (sumAt l)
theorem sumList_length (l : List UInt8) : (sumList l).length = 32 := bytesOf_length _ _
def shortKey (key : List UInt8) : List UInt8 := if 64 < key.length then sumList key else key
theorem shortKey_length (key : List UInt8) : (shortKey key).length ≤ 64 := by
 unfold shortKey
 split
 · rw [sumList_length]; decide
 · omega
theorem shortKey_long {key : List UInt8} (h : 64 < key.length) : shortKey key = sumList key := if_pos h
theorem shortKey_short {key : List UInt8} (h : ¬ 64 < key.length) : shortKey key = key := if_neg h
def keyAt (key : List UInt8) : Nat → Nat := byte (shortKey key)
theorem keyAt_lt (key : List UInt8) (j : Nat) : keyAt key j < 256 := byte_lt _ _
def padAt (k : Nat → Nat) (v : Nat) : Nat → Nat := fun j => k j ^^^ v
theorem padAt_lt (k : Nat → Nat) (hk : ∀ j, k j < 256) (v : Nat) (hv : v < 256) (j : Nat) : padAt k v j < 256 := Nat.xor_lt_two_pow (n := 8) (hk j) hv
def padL (k : Nat → Nat) (v : Nat) : List UInt8 := bytesOf 64 (padAt k v)
theorem padL_length (k : Nat → Nat) (v : Nat) : (padL k v).length = 64 := bytesOf_length _ _
def keyedAt (k : Nat → Nat) (msg : List UInt8) : Nat → Nat := sumAt (padL k 92 ++ sumList (padL k 54 ++ msg))
def macAt (key msg : List UInt8) : Nat → Nat := keyedAt (keyAt key) msg
def firstMsg (salt : List UInt8) : List UInt8 := salt ++ [0, 0, 0, 1]
def msgAt (key : Nat → Nat) (salt : List UInt8) : Nat → List UInt8
  | 0 => firstMsg salt
  | i + 1 => bytesOf 32 (keyedAt key (msgAt key salt i))
theorem msgAt_succ (key : Nat → Nat) (salt : List UInt8) (i : Nat) : msgAt key salt (i + 1) = bytesOf 32 (keyedAt key (msgAt key salt i)) := by rw [msgAt]
def uAt (key : Nat → Nat) (salt : List UInt8) (i : Nat) : Nat → Nat := keyedAt key (msgAt key salt i)
theorem uAt_lt (key : Nat → Nat) (salt : List UInt8) (i j : Nat) : uAt key salt i j < 256 := sumAt_lt _ _
theorem uAt_succ (key : Nat → Nat) (salt : List UInt8) (i : Nat) : uAt key salt (i + 1) = keyedAt key (bytesOf 32 (uAt key salt i)) := by
 unfold uAt
 rw [msgAt_succ]
def mixAt (key : Nat → Nat) (salt : List UInt8) : Nat → Nat → Nat
  | 0 => fun _ => 0
  | i + 1 => fun j => mixAt key salt i j ^^^ uAt key salt i j
theorem mixAt_succ (key : Nat → Nat) (salt : List UInt8) (i j : Nat) : mixAt key salt (i + 1) j = mixAt key salt i j ^^^ uAt key salt i j := by rw [mixAt]
theorem mixAt_one (key : Nat → Nat) (salt : List UInt8) (j : Nat) : mixAt key salt 1 j = uAt key salt 0 j := by
 rw [mixAt_succ]
 show 0 ^^^ _ = _
 rw [Nat.zero_xor]
theorem mixAt_lt (key : Nat → Nat) (salt : List UInt8) (j : Nat) : ∀ i, mixAt key salt i j < 256
  | 0 => by show 0 < 256; decide
  | i + 1 => by rw [mixAt_succ]; exact Nat.xor_lt_two_pow (n := 8) (mixAt_lt key salt j i) (uAt_lt _ _ _ _)
def derAt (pass salt : List UInt8) (r : Int) : Nat → Nat := if 1 ≤ r ∧ r ≤ 64 then mixAt (keyAt pass) salt r.toNat else fun _ => 0
theorem derAt_in {pass salt : List UInt8} {r : Int} (h : 1 ≤ r ∧ r ≤ 64) : derAt pass salt r = mixAt (keyAt pass) salt r.toNat := if_pos h
theorem derAt_lt (pass salt : List UInt8) (r : Int) (j : Nat) : derAt pass salt r j < 256 := by
 unfold derAt
 split
 · exact mixAt_lt _ _ _ _
 · show 0 < 256; decide
def derL (pass salt : List UInt8) (r : Int) : List UInt8 := bytesOf 32 (derAt pass salt r)
theorem derL_length (pass salt : List UInt8) (r : Int) : (derL pass salt r).length = 32 := bytesOf_length _ _
def cutL : List UInt8 → Option (List UInt8 × List UInt8)
  | [] => none
  | c :: r => if c = 58 then some ([], r) else match cutL r with
    | none => none
    | some (a, b) => some (c :: a, b)
theorem cutL_some : ∀ {l a b : List UInt8}, cutL l = some (a, b) → l = a ++ 58 :: b ∧ ¬ (58 : UInt8) ∈ a
  | [], a, b, h => by cases h
  | c :: r, a, b, h => by
    unfold cutL at h
    by_cases hc : c = 58
    · rw [if_pos hc] at h
      injection h with h
      injection h with h1 h2
      subst h1 h2 hc
      exact ⟨rfl, by simp⟩
    · rw [if_neg hc] at h
      split at h
      · cases h
      · rename_i x y hxy
        injection h with h
        injection h with h1 h2
        subst h1 h2
        obtain ⟨h3, h4⟩ := cutL_some hxy
        refine ⟨by rw [h3]; rfl, ?_⟩
        intro hm
        rcases List.mem_cons.1 hm with hm | hm
        · exact hc hm.symm
        · exact h4 hm
theorem cutL_join : ∀ (a b : List UInt8), ¬ (58 : UInt8) ∈ a → cutL (a ++ 58 :: b) = some (a, b)
  | [], b, h => by simp [cutL]
  | c :: r, b, h => by
    have hc : ¬ c = 58 := fun e => h (by simp [e])
    have hr : ¬ (58 : UInt8) ∈ r := fun e => h (by simp [e])
    show cutL (c :: (r ++ 58 :: b)) = _
    rw [cutL, if_neg hc, cutL_join r b hr]
theorem cutL_free : ∀ (l : List UInt8), ¬ (58 : UInt8) ∈ l → cutL l = none
  | [], h => rfl
  | c :: r, h => by
    have hc : ¬ c = 58 := fun e => h (by simp [e])
    have hr : ¬ (58 : UInt8) ∈ r := fun e => h (by simp [e])
    rw [cutL, if_neg hc, cutL_free r hr]
theorem index_cut : ∀ (l : List UInt8), Lib.indexByte l 58 = match cutL l with | none => -1 | some (a, _) => (a.length : Int)
  | [] => rfl
  | c :: r => by
    have ih := index_cut r
    unfold Lib.indexByte cutL
    by_cases hc : c = 58
    · subst hc
      simp
    · rw [if_neg hc]
      rcases h : cutL r with _ | ⟨a, b⟩
      · rw [h] at ih
        simp [hc, ih]
      · rw [h] at ih
        simp only at ih
        simp [hc, ih] <;> omega
def three (l : List UInt8) : Option (List UInt8 × List UInt8 × List UInt8) :=
 match cutL l with
 | none => none
 | some (a, r) => match cutL r with
   | none => none
   | some (b, c) => some (a, b, c)
theorem three_join (a b c : List UInt8) (ha : ¬ (58 : UInt8) ∈ a) (hb : ¬ (58 : UInt8) ∈ b) : three (a ++ 58 :: (b ++ 58 :: c)) = some (a, b, c) := by
 unfold three
 rw [cutL_join _ _ ha]
 simp only
 rw [cutL_join _ _ hb]
theorem digV_colon : digV 58 = none := by decide
theorem unhex_colon : ∀ (l : List UInt8), (58 : UInt8) ∈ l → unhexL l = none
  | [], h => by simp at h
  | [_], _ => rfl
  | a :: b :: r, h => by
    rcases List.mem_cons.1 h with h | h
    · exact unhex_bad _ _ _ (Or.inl (by rw [← h]; exact digV_colon))
    · rcases List.mem_cons.1 h with h | h
      · exact unhex_bad _ _ _ (Or.inr (by rw [← h]; exact digV_colon))
      · rw [unhexL_cons, unhex_colon r h]
        split <;> simp_all
theorem hexD_colon : ∀ n, n < 16 → hexD n ≠ 58 := by decide
theorem hexL_colon : ∀ l : List UInt8, ¬ (58 : UInt8) ∈ hexL l
  | [] => by simp [hexL]
  | c :: r => by
    have h256 : c.toNat < 256 := UInt8.toNat_lt c
    have h1 := hexD_colon (c.toNat / 16) (by omega)
    have h2 := hexD_colon (c.toNat % 16) (by omega)
    have h3 := hexL_colon r
    simp only [hexL, List.mem_cons, not_or]
    exact ⟨fun e => h1 e.symm, fun e => h2 e.symm, h3⟩
end Go.Proofs.YtpoinibckmbfcaaGreatDoor.MacM
namespace Go.Proofs.YtpoinibckmbfcaaGreatDoor.MacM
open Go Kit ShaMath ShaT HexMath NumMath
set_option linter.unusedVariables false
def recL (r : Int) (salt d : List UInt8) : List UInt8 := Lib.itoa r ++ 58 :: (hexL salt ++ 58 :: hexL d)
def recOf3 (a b c : List UInt8) : Option (Int × List UInt8 × List UInt8) :=
 match parse a, unhexL b, unhexL c with
 | some r, some salt, some d => if 1 ≤ r ∧ r ≤ 64 ∧ salt.length ≤ 32 ∧ d.length = 32 then some (r, salt, d) else none
 | _, _, _ => none
def recOf (l : List UInt8) : Option (Int × List UInt8 × List UInt8) :=
 match three l with
 | some (a, b, c) => recOf3 a b c
 | none => none
def rightB (l : List UInt8) : Bool := (recOf l).isSome
def checkB (l pass : List UInt8) : Bool :=
 match recOf l with
 | some (r, salt, d) => decide (derL pass salt r = d)
 | none => false
theorem recOf_three {l a b c : List UInt8} (h : three l = some (a, b, c)) : recOf l = recOf3 a b c := by
 unfold recOf; rw [h]
theorem recOf_no {l : List UInt8} (h : three l = none) : recOf l = none := by
 unfold recOf; rw [h]
theorem recOf3_some {a b c : List UInt8} {r : Int} {salt d : List UInt8} (ha : parse a = some r) (hb : unhexL b = some salt) (hc : unhexL c = some d) (h : 1 ≤ r ∧ r ≤ 64 ∧ salt.length ≤ 32 ∧ d.length = 32) : recOf3 a b c = some (r, salt, d) := by
 unfold recOf3
 rw [ha, hb, hc]
 exact if_pos h
theorem recOf3_out {a b c : List UInt8} {r : Int} {salt d : List UInt8} (ha : parse a = some r) (hb : unhexL b = some salt) (hc : unhexL c = some d) (h : ¬ (1 ≤ r ∧ r ≤ 64 ∧ salt.length ≤ 32 ∧ d.length = 32)) : recOf3 a b c = none := by
 unfold recOf3
 rw [ha, hb, hc]
 exact if_neg h
theorem recOf3_a {a b c : List UInt8} (ha : parse a = none) : recOf3 a b c = none := by
 unfold recOf3
 rw [ha]
theorem recOf3_b {a b c : List UInt8} (hb : unhexL b = none) : recOf3 a b c = none := by
 unfold recOf3
 rw [hb]
 split <;> simp_all
theorem recOf3_c {a b c : List UInt8} (hc : unhexL c = none) : recOf3 a b c = none := by
 unfold recOf3
 rw [hc]
 split <;> simp_all
theorem recOf3_inv {a b c : List UInt8} {r : Int} {salt d : List UInt8} (h : recOf3 a b c = some (r, salt, d)) : parse a = some r ∧ unhexL b = some salt ∧ unhexL c = some d ∧ 1 ≤ r ∧ r ≤ 64 ∧ salt.length ≤ 32 ∧ d.length = 32 := by
 unfold recOf3 at h
 split at h
 · rename_i x y z h1 h2 h3
   split at h
   · rename_i hh
     simp only [Option.some.injEq, Prod.mk.injEq] at h
     obtain ⟨rfl, rfl, rfl⟩ := h
     exact ⟨h1, h2, h3, hh.1, hh.2.1, hh.2.2.1, hh.2.2.2⟩
   · cases h
 · cases h
theorem itoa_colon (r : Int) : ¬ (58 : UInt8) ∈ Lib.itoa r := by
 intro h
 rcases itoa_mem r 58 h with h | h
 · exact absurd h (by decide)
 · exact absurd h.2 (by decide)
theorem three_rec (r : Int) (salt d : List UInt8) : three (recL r salt d) = some (Lib.itoa r, hexL salt, hexL d) :=
 three_join _ _ _ (itoa_colon r) (hexL_colon salt)
theorem recOf_recL {r : Int} {salt d : List UInt8} (h : 1 ≤ r ∧ r ≤ 64 ∧ salt.length ≤ 32 ∧ d.length = 32) : recOf (recL r salt d) = some (r, salt, d) := by
 rw [recOf_three (three_rec r salt d)]
 exact recOf3_some (parse_itoa r (by omega) (by omega)) (unhex_hex _) (unhex_hex _) h
theorem right_recL {r : Int} {salt d : List UInt8} (h : 1 ≤ r ∧ r ≤ 64 ∧ salt.length ≤ 32 ∧ d.length = 32) : rightB (recL r salt d) = true := by
 unfold rightB
 rw [recOf_recL h]
 rfl
theorem check_none {l : List UInt8} (h : recOf l = none) (pass : List UInt8) : checkB l pass = false := by
 unfold checkB
 rw [h]
theorem recOf_last {r : Int} {salt c : List UInt8} : recOf (Lib.itoa r ++ 58 :: (hexL salt ++ 58 :: c)) = recOf3 (Lib.itoa r) (hexL salt) c :=
 recOf_three (three_join _ _ _ (itoa_colon r) (hexL_colon salt))
theorem last_none {r : Int} {salt c : List UInt8} (hc : unhexL c = none) : recOf (Lib.itoa r ++ 58 :: (hexL salt ++ 58 :: c)) = none := by
 rw [recOf_last]
 exact recOf3_c hc
theorem itoa_1 : Lib.itoa 1 = [49] := by decide +kernel
theorem itoa_small (r : Int) (h : 1 ≤ r ∧ r ≤ 64) : (Lib.itoa r).length ≤ 2 := by
 have key : ∀ n : Nat, n ≤ 64 → (Lib.itoa (n : Int)).length ≤ 2 := by decide +kernel
 have := key r.toNat (by omega)
 rwa [show ((r.toNat : Nat) : Int) = r by omega] at this
end Go.Proofs.YtpoinibckmbfcaaGreatDoor.MacM
