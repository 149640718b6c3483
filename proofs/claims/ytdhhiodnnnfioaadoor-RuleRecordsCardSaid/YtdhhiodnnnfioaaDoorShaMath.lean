/-
  SHA-256 over natural numbers, as both the program and the document's own text are held against it: words, turning, the words of a block, the rounds, the blocks in order, the bytes at the end. Plain mathematics: nothing here is of a program.
-/
import Derived.Laws.BitsAllLaws
namespace Go.Proofs.YtdhhiodnnnfioaaDoor.ShaMath
open Go

/-- To turn a word by n. -/
def rot (x n : Nat) : Nat := x / 2 ^ n + x * 2 ^ (32 - n) % 4294967296
theorem shl_split (x n : Nat) (hn : n ≤ 32) : x * 2 ^ (32 - n) % 4294967296 = 2 ^ (32 - n) * (x % 2 ^ n) := by
  have h : 4294967296 = 2 ^ (32 - n) * 2 ^ n := by rw [← Nat.pow_add, show 32 - n + n = 32 by omega]
  rw [Nat.mul_comm x, h, Nat.mul_mod_mul_left]
theorem div_lt_pow (x n : Nat) (hx : x < 4294967296) (hn : n ≤ 32) : x / 2 ^ n < 2 ^ (32 - n) := by
  have h : 4294967296 = 2 ^ (32 - n) * 2 ^ n := by rw [← Nat.pow_add, show 32 - n + n = 32 by omega]
  rw [Nat.div_lt_iff_lt_mul (Nat.two_pow_pos n), ← h]
  exact hx
theorem rot_or (x n : Nat) (hx : x < 4294967296) (hn : n ≤ 32) : x / 2 ^ n ||| x * 2 ^ (32 - n) % 4294967296 = rot x n := by
  unfold rot
  rw [shl_split x n hn, Nat.or_comm, ← Nat.two_pow_add_eq_or_of_lt (div_lt_pow x n hx hn), Nat.add_comm]
theorem rot_lt (x n : Nat) (hx : x < 4294967296) (hn : n ≤ 32) : rot x n < 4294967296 := by
  rw [← rot_or x n hx hn]
  have h1 : x / 2 ^ n < 2 ^ 32 := Nat.lt_of_le_of_lt (Nat.div_le_self _ _) hx
  have h2 : x * 2 ^ (32 - n) % 4294967296 < 2 ^ 32 := Nat.mod_lt _ (by decide)
  exact Nat.or_lt_two_pow h1 h2

theorem xor_lt (x y : Nat) (hx : x < 4294967296) (hy : y < 4294967296) : x ^^^ y < 4294967296 := Nat.xor_lt_two_pow (n := 32) hx hy
theorem and_lt (x y : Nat) (hx : x < 4294967296) : x &&& y < 4294967296 := Nat.lt_of_le_of_lt Nat.and_le_left hx
theorem or_lt (x y : Nat) (hx : x < 4294967296) (hy : y < 4294967296) : x ||| y < 4294967296 := Nat.or_lt_two_pow (n := 32) hx hy

/-- Of two words the bits that a third one picks. -/
def pick (e f g : Nat) : Nat := (e &&& f) ||| ((4294967295 - e) &&& g)
theorem not_and (e f g : Nat) (he : e < 4294967296) : (e &&& f) &&& ((4294967295 - e) &&& g) = 0 := by
  apply Nat.eq_of_testBit_eq
  intro i
  have h : (4294967295 - e).testBit i = (decide (i < 32) && !e.testBit i) := by
    have := Nat.testBit_two_pow_sub_succ (n := 32) (x := e) (by simpa using he) i
    rw [← this]
    congr 1
    omega
  simp only [Nat.testBit_and, h, Nat.zero_testBit]
  cases e.testBit i <;> simp
theorem add_or (x y : Nat) (hx : x < 4294967296) (hy : y < 4294967296) (h : x &&& y = 0) : x + y = x ||| y := by
  have h0 : BitVec.ofNat 33 x &&& BitVec.ofNat 33 y = 0#33 := by
    apply BitVec.eq_of_toNat_eq
    simp only [BitVec.toNat_and, BitVec.toNat_ofNat]
    rw [Nat.mod_eq_of_lt (by omega), Nat.mod_eq_of_lt (by omega), h]
  have h1 := congrArg BitVec.toNat (BitVec.add_eq_or_of_and_eq_zero _ _ h0)
  simp only [BitVec.toNat_add, BitVec.toNat_or, BitVec.toNat_ofNat] at h1
  rw [Nat.mod_eq_of_lt (a := x) (by omega), Nat.mod_eq_of_lt (a := y) (by omega), Nat.mod_eq_of_lt (by omega)] at h1
  exact h1
theorem pick_add (e f g : Nat) (he : e < 4294967296) (hg : g < 4294967296) : (e &&& f) + ((4294967295 - e) &&& g) = pick e f g :=
  add_or _ _ (and_lt _ _ he) (Nat.lt_of_le_of_lt Nat.and_le_right hg) (not_and e f g he)
/-- The bits that two at least of three words have. -/
def most (a b c : Nat) : Nat := (a &&& b) ||| (a &&& c) ||| (b &&& c)
theorem pick_lt (e f g : Nat) (he : e < 4294967296) (hg : g < 4294967296) : pick e f g < 4294967296 :=
  or_lt _ _ (and_lt _ _ he) (Nat.lt_of_le_of_lt Nat.and_le_right hg)
theorem most_lt (a b c : Nat) (ha : a < 4294967296) (hb : b < 4294967296) : most a b c < 4294967296 :=
  or_lt _ _ (or_lt _ _ (and_lt _ _ ha) (and_lt _ _ ha)) (and_lt _ _ hb)

/-- Eight words. -/
structure W8 where
  a : Nat
  b : Nat
  c : Nat
  d : Nat
  e : Nat
  f : Nat
  g : Nat
  h : Nat
def W8.get (s : W8) : Nat → Nat
  | 0 => s.a
  | 1 => s.b
  | 2 => s.c
  | 3 => s.d
  | 4 => s.e
  | 5 => s.f
  | 6 => s.g
  | _ => s.h
structure W8.Ok (s : W8) : Prop where
  a : s.a < 4294967296
  b : s.b < 4294967296
  c : s.c < 4294967296
  d : s.d < 4294967296
  e : s.e < 4294967296
  f : s.f < 4294967296
  g : s.g < 4294967296
  h : s.h < 4294967296
theorem W8.Ok.get {s : W8} (h : s.Ok) (j : Nat) : s.get j < 4294967296 := by
  unfold W8.get
  split
  · exact h.a
  · exact h.b
  · exact h.c
  · exact h.d
  · exact h.e
  · exact h.f
  · exact h.g
  · exact h.h

def bigE (e : Nat) : Nat := rot e 6 ^^^ rot e 11 ^^^ rot e 25
def bigA (a : Nat) : Nat := rot a 2 ^^^ rot a 13 ^^^ rot a 22
def smallX (x : Nat) : Nat := rot x 7 ^^^ rot x 18 ^^^ x / 8
def smallY (x : Nat) : Nat := rot x 17 ^^^ rot x 19 ^^^ x / 1024
theorem bigE_lt (e : Nat) (h : e < 4294967296) : bigE e < 4294967296 := xor_lt _ _ (xor_lt _ _ (rot_lt _ _ h (by decide)) (rot_lt _ _ h (by decide))) (rot_lt _ _ h (by decide))
theorem bigA_lt (e : Nat) (h : e < 4294967296) : bigA e < 4294967296 := xor_lt _ _ (xor_lt _ _ (rot_lt _ _ h (by decide)) (rot_lt _ _ h (by decide))) (rot_lt _ _ h (by decide))
theorem smallX_lt (e : Nat) (h : e < 4294967296) : smallX e < 4294967296 := xor_lt _ _ (xor_lt _ _ (rot_lt _ _ h (by decide)) (rot_lt _ _ h (by decide))) (by omega)
theorem smallY_lt (e : Nat) (h : e < 4294967296) : smallY e < 4294967296 := xor_lt _ _ (xor_lt _ _ (rot_lt _ _ h (by decide)) (rot_lt _ _ h (by decide))) (by omega)

def tt (s : W8) (kw : Nat) : Nat := (s.h + bigE s.e + pick s.e s.f s.g + kw) % 4294967296
def uu (s : W8) : Nat := (bigA s.a + most s.a s.b s.c) % 4294967296
/-- A round. -/
def rnd (s : W8) (kw : Nat) : W8 := ⟨(tt s kw + uu s) % 4294967296, s.a, s.b, s.c, (s.d + tt s kw) % 4294967296, s.e, s.f, s.g⟩
theorem tt_lt (s : W8) (kw : Nat) : tt s kw < 4294967296 := Nat.mod_lt _ (by decide)
theorem uu_lt (s : W8) : uu s < 4294967296 := Nat.mod_lt _ (by decide)
theorem rnd_ok {s : W8} (h : s.Ok) (kw : Nat) : (rnd s kw).Ok := ⟨Nat.mod_lt _ (by decide), h.a, h.b, h.c, Nat.mod_lt _ (by decide), h.e, h.f, h.g⟩

def H0 : W8 := ⟨1779033703, 3144134277, 1013904242, 2773480762, 1359893119, 2600822924, 528734635, 1541459225⟩
def Kt : List Nat := [1116352408, 1899447441, 3049323471, 3921009573, 961987163, 1508970993, 2453635748, 2870763221, 3624381080, 310598401, 607225278, 1426881987, 1925078388, 2162078206, 2614888103, 3248222580, 3835390401, 4022224774, 264347078, 604807628, 770255983, 1249150122, 1555081692, 1996064986, 2554220882, 2821834349, 2952996808, 3210313671, 3336571891, 3584528711, 113926993, 338241895, 666307205, 773529912, 1294757372, 1396182291, 1695183700, 1986661051, 2177026350, 2456956037, 2730485921, 2820302411, 3259730800, 3345764771, 3516065817, 3600352804, 4094571909, 275423344, 430227734, 506948616, 659060556, 883997877, 958139571, 1322822218, 1537002063, 1747873779, 1955562222, 2024104815, 2227730452, 2361852424, 2428436474, 2756734187, 3204031479, 3329325298]
def kAt (i : Nat) : Nat := Kt.getD i 0
theorem kAt_lt (i : Nat) : kAt i < 4294967296 := by
  by_cases h : i < 64
  · exact (show ∀ i, i < 64 → kAt i < 4294967296 by decide +kernel) i h
  · unfold kAt
    rw [List.getD_eq_getElem?_getD, List.getElem?_eq_none (by show Kt.length ≤ i; rw [show Kt.length = 64 by decide]; omega)]
    decide

/-- The bytes of a text, and of what lies behind it. -/
def byte (l : List UInt8) (j : Nat) : Nat := (l.getD j 0).toNat
theorem byte_lt (l : List UInt8) (j : Nat) : byte l j < 256 := UInt8.toNat_lt _
def word (l : List UInt8) (i : Nat) : Nat := byte l (4 * i) * 16777216 + byte l (4 * i + 1) * 65536 + byte l (4 * i + 2) * 256 + byte l (4 * i + 3)
theorem word_lt (l : List UInt8) (i : Nat) : word l i < 4294967296 := by
  unfold word
  have h0 := byte_lt l (4 * i)
  have h1 := byte_lt l (4 * i + 1)
  have h2 := byte_lt l (4 * i + 2)
  have h3 := byte_lt l (4 * i + 3)
  omega

/-- The words W of a block. -/
def wNext (p : List Nat) (i : Nat) : Nat := (smallX (p.getD (i + 1) 0) + p.getD (i + 9) 0 + smallY (p.getD (i + 14) 0) + p.getD i 0) % 4294967296
def sched (l : List UInt8) : Nat → List Nat
  | 0 => (List.range 16).map (word l)
  | i + 1 => sched l i ++ [wNext (sched l i) i]
def wAt (l : List UInt8) (j : Nat) : Nat := (sched l 48).getD j 0
theorem sched_length (l : List UInt8) : ∀ i, (sched l i).length = 16 + i
  | 0 => by simp [sched]
  | i + 1 => by simp [sched, sched_length l i]; omega
theorem sched_keep (l : List UInt8) (j : Nat) : ∀ i k, j < 16 + i → (sched l (i + k)).getD j 0 = (sched l i).getD j 0
  | _, 0, _ => rfl
  | i, k + 1, h => by
    rw [← Nat.add_assoc]
    show (sched l (i + k) ++ [_]).getD j 0 = _
    rw [List.getD_eq_getElem?_getD, List.getElem?_append_left (by rw [sched_length]; omega), ← List.getD_eq_getElem?_getD, sched_keep l j i k h]
theorem sched_part (l : List UInt8) (j i m : Nat) (h : j < 16 + i) (hm : i ≤ m) : (sched l m).getD j 0 = (sched l i).getD j 0 := by
  obtain ⟨k, rfl⟩ : ∃ k, m = i + k := ⟨m - i, by omega⟩
  exact sched_keep l j i k h
theorem sched_first (l : List UInt8) (j : Nat) (h : j < 16) : (sched l 0).getD j 0 = word l j := by
  simp [sched, h]
theorem sched_succ (l : List UInt8) (i : Nat) : sched l (i + 1) = sched l i ++ [wNext (sched l i) i] := by rw [sched]
theorem sched_last (l : List UInt8) (i : Nat) : (sched l (i + 1)).getD (i + 16) 0 = wNext (sched l i) i := by
  rw [sched_succ, List.getD_eq_getElem?_getD, List.getElem?_append_right (by rw [sched_length]; omega), sched_length, show i + 16 - (16 + i) = 0 by omega, List.getElem?_cons_zero, Option.getD_some]
theorem wAt_first (l : List UInt8) (j : Nat) (h : j < 16) : wAt l j = word l j :=
  (sched_part l j 0 48 (by omega) (by omega)).trans (sched_first l j h)
theorem wAt_of (l : List UInt8) (i j : Nat) (h : i < 48) (hj : j < 16 + i) : (sched l i).getD j 0 = wAt l j :=
  (sched_part l j i 48 hj (by omega)).symm
theorem wAt_next (l : List UInt8) (i : Nat) (h : i < 48) : wAt l (i + 16) = (smallX (wAt l (i + 1)) + wAt l (i + 9) + smallY (wAt l (i + 14)) + wAt l i) % 4294967296 := by
  refine (sched_part l (i + 16) (i + 1) 48 (by omega) (by omega)).trans ((sched_last l i).trans ?_)
  unfold wNext
  rw [wAt_of l i _ h (by omega), wAt_of l i _ h (by omega), wAt_of l i _ h (by omega), wAt_of l i _ h (by omega)]
theorem wAt_lt (l : List UInt8) (j : Nat) (h : j < 64) : wAt l j < 4294967296 := by
  by_cases hj : j < 16
  · rw [wAt_first l j hj]; exact word_lt l j
  · obtain ⟨i, rfl⟩ : ∃ i, j = i + 16 := ⟨j - 16, by omega⟩
    rw [wAt_next l i (by omega)]
    exact Nat.mod_lt _ (by decide)

/-- What a round takes in. -/
def kw (l : List UInt8) (i : Nat) : Nat := (kAt i + wAt l i) % 4294967296
/-- So many rounds of a block. -/
def rounds (s : W8) (l : List UInt8) : Nat → W8
  | 0 => s
  | i + 1 => rnd (rounds s l i) (kw l i)
theorem rounds_succ (s : W8) (l : List UInt8) (i : Nat) : rounds s l (i + 1) = rnd (rounds s l i) (kw l i) := by rw [rounds]
theorem rounds_ok {s : W8} (h : s.Ok) (l : List UInt8) : ∀ i, (rounds s l i).Ok
  | 0 => h
  | i + 1 => rnd_ok (rounds_ok h l i) _
def addW (s r : W8) : W8 := ⟨(s.a + r.a) % 4294967296, (s.b + r.b) % 4294967296, (s.c + r.c) % 4294967296, (s.d + r.d) % 4294967296, (s.e + r.e) % 4294967296, (s.f + r.f) % 4294967296, (s.g + r.g) % 4294967296, (s.h + r.h) % 4294967296⟩
theorem addW_get (s r : W8) (j : Nat) : (addW s r).get j = (s.get j + r.get j) % 4294967296 := by
  unfold W8.get
  split <;> rfl
theorem addW_ok (s r : W8) : (addW s r).Ok := ⟨Nat.mod_lt _ (by decide), Nat.mod_lt _ (by decide), Nat.mod_lt _ (by decide), Nat.mod_lt _ (by decide), Nat.mod_lt _ (by decide), Nat.mod_lt _ (by decide), Nat.mod_lt _ (by decide), Nat.mod_lt _ (by decide)⟩
/-- What the eight words become by a block. -/
def blk (s : W8) (l : List UInt8) : W8 := addW s (rounds s l 64)
theorem blk_ok (s : W8) (l : List UInt8) : (blk s l).Ok := addW_ok _ _

/-- So many blocks. -/
def after (l : List UInt8) : Nat → W8
  | 0 => H0
  | k + 1 => blk (after l k) (l.drop (64 * k))
theorem H0_ok : H0.Ok := ⟨by decide, by decide, by decide, by decide, by decide, by decide, by decide, by decide⟩
theorem after_ok (l : List UInt8) : ∀ k, (after l k).Ok
  | 0 => H0_ok
  | _ + 1 => blk_ok _ _

/-- Only the first 64 bytes of a block tell. -/
theorem word_same {l r : List UInt8} (h : ∀ j, j < 64 → byte l j = byte r j) (i : Nat) (hi : i < 16) : word l i = word r i := by
  unfold word
  rw [h _ (by omega), h _ (by omega), h _ (by omega), h _ (by omega)]
theorem sched_same {l r : List UInt8} (h : ∀ j, j < 64 → byte l j = byte r j) : ∀ i, sched l i = sched r i
  | 0 => by
    unfold sched
    apply List.map_congr_left
    intro i hi
    exact word_same h i (List.mem_range.1 hi)
  | i + 1 => by
    unfold sched
    rw [sched_same h i]
theorem wAt_same {l r : List UInt8} (h : ∀ j, j < 64 → byte l j = byte r j) (i : Nat) : wAt l i = wAt r i :=
  congrArg (fun x => x.getD i 0) (sched_same h 48)
theorem rounds_same {l r : List UInt8} (h : ∀ j, j < 64 → byte l j = byte r j) (s : W8) : ∀ i, rounds s l i = rounds s r i
  | 0 => rfl
  | i + 1 => by
    unfold rounds kw
    rw [rounds_same h s i, wAt_same h i]
theorem blk_same {l r : List UInt8} (h : ∀ j, j < 64 → byte l j = byte r j) (s : W8) : blk s l = blk s r := by
  unfold blk
  rw [rounds_same h s 64]

/-- Eight bytes that tell a number, the highest first. -/
def be8 (n : Nat) : List UInt8 := (List.range 8).map fun i => UInt8.ofNat (n / 2 ^ (8 * (7 - i)) % 256)
/-- How many bytes 0 follow so many and the byte 128. -/
def gap (n : Nat) : Nat := (119 - n % 64) % 64
def padded (l : List UInt8) : List UInt8 := l ++ [128] ++ List.replicate (gap l.length) 0 ++ be8 (8 * l.length)
theorem be8_length (n : Nat) : (be8 n).length = 8 := by simp [be8]
theorem padded_length (l : List UInt8) : (padded l).length = l.length + 9 + gap l.length := by
  simp [padded, be8_length]; omega
def sumW (l : List UInt8) : W8 := after (padded l) ((padded l).length / 64)
def toldL (s : W8) : List Nat := (List.range 32).map fun i => s.get (i / 4) / 2 ^ (24 - 8 * (i % 4)) % 256
def sumL (l : List UInt8) : List Nat := toldL (sumW l)

theorem sum_none : (sumL []).take 4 = [0xe3, 0xb0, 0xc4, 0x42] := by decide +kernel
theorem sum_abc : (sumL [97, 98, 99]).take 4 = [0xba, 0x78, 0x16, 0xbf] := by decide +kernel

end Go.Proofs.YtdhhiodnnnfioaaDoor.ShaMath
