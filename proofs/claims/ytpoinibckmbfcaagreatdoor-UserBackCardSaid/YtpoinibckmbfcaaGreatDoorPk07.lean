/-
  Packed by program.
-/
import Derived.Lib.IndexBytes
import Derived.Deep.DeepCutAuto
import Derived.Lib.QuietBelow
import Derived.Test.YtpoinibckmbfcaaGreatDoorPk03
import Derived.Test.YtpoinibckmbfcaaGreatDoorPk06
import Derived.Test.YtpoinibckmbfcaaGreatDoorPk06
namespace Go.Proofs.YtpoinibckmbfcaaGreatDoor.MacT
open Go.RowKit Kit ShaMath ShaT MacM
set_option linter.unusedVariables false
theorem row_bv (n : Nat) (f : Nat → Nat) (hf : ∀ j, f j < 256) : row .u8 n f = (bv (bytesOf n f)).toArray := by
 unfold row bv bytesOf
 congr 1
 rw [List.map_map]
 apply List.map_congr_left
 intro j _
 have := hf j
 simp only [Function.comp_def, UInt8.toNat_ofNat']
 rw [Nat.mod_eq_of_lt (by omega)]
theorem arr_bs {w : World} {b n : Nat} {t : TypeId} {f : Nat → Nat} (h : Arr w b .u8 n t f) (hf : ∀ j, f j < 256) : Bs w (some ⟨b, 0, none⟩) (bytesOf n f) := by
 intro h0
 refine ⟨b, 0, rfl, h.lt, fun j hj => ?_⟩
 rw [bytesOf_length] at hj
 rw [Nat.zero_add, h.at_ j hj, bytesOf_at, UInt8.toNat_ofNat', Nat.mod_eq_of_lt (hf j)]
def Byt (w : World) (g : Nat) (t : TypeId) (l : List UInt8) : Prop := w.heap[g]? = some (.cells (bv l).toArray t (0, 0))
theorem Byt.lt {w : World} {g : Nat} {t : TypeId} {l : List UInt8} (h : Byt w g t l) : g < w.heap.size := by
 rcases Nat.lt_or_ge g w.heap.size with h' | h'
 · exact h'
 · unfold Byt at h; rw [Array.getElem?_eq_none h'] at h; cases h
theorem Byt.bs {w : World} {g : Nat} {t : TypeId} {l : List UInt8} (h : Byt w g t l) : Bs w (some ⟨g, 0, none⟩) l := by
 intro h0
 refine ⟨g, 0, rfl, h.lt, fun j hj => ?_⟩
 rw [Nat.zero_add, cell_of_row w g j _ t _ h]
 simp [bv, hj]
theorem Byt.keep {w w' : World} {B g : Nat} {t : TypeId} {l : List UInt8} (h : Byt w g t l) (hb : Below B w w') (hB : g < B) : Byt w' g t l := by
 unfold Byt
 rw [hb.block g hB]
 exact h
theorem Byt.al {w : World} {g : Nat} {t : TypeId} {l : List UInt8} (h : Byt w g t l) (o : Obj) : Byt (w.alloc o) g t l := by
 unfold Byt
 rw [Below.heap_alloc w o g h.lt]
 exact h
theorem Byt.set {w : World} {g : Nat} {t : TypeId} {l : List UInt8} (h : Byt w g t l) (j : Nat) (c : UInt8) : Byt (w.setCell ⟨g, j, none⟩ (.int .u8 (c.toNat : Int))) g t (l.set j c) := by
 unfold Byt
 rw [heap_setCell_same w g j _ t _ h]
 congr 2
 simp [bv, List.map_set]
theorem arr_byt {w : World} {b n : Nat} {t : TypeId} {f : Nat → Nat} (h : Arr w b .u8 n t f) (hf : ∀ j, f j < 256) : Byt w b t (bytesOf n f) := by
 unfold Byt
 rw [← row_bv n f hf]
 exact h
theorem byt_arr {w : World} {b n : Nat} {t : TypeId} {f : Nat → Nat} (h : Byt w b t (bytesOf n f)) (hf : ∀ j, f j < 256) : Arr w b .u8 n t f := by
 unfold Arr
 rw [row_bv n f hf]
 exact h
theorem copy_src {w : World} {p : Option Addr} {l : List UInt8} (h : Bs w p l) (h0 : 0 < (bv l).length) : ∃ ad, p = some ad ∧ ad.block < w.heap.size ∧ ∀ j v, (bv l)[j]? = some v → w.cell? (ad.add j) = some v := by
 rw [bv_length] at h0
 obtain ⟨b, off, rfl, hlt, hc⟩ := h h0
 refine ⟨_, rfl, hlt, fun j v hv => ?_⟩
 have hj : j < l.length := by
  rcases Nat.lt_or_ge j l.length with h | h
  · exact h
  · rw [List.getElem?_eq_none (by rw [bv_length]; exact h)] at hv; cases hv
 have hv3 := Option.some.inj ((bv_at l j hj).symm.trans hv)
 subst hv3
 rw [Addr.add_lit]
 exact hc j hj
theorem splice_bv (d s : List UInt8) (k : Nat) : splice (bv d) k (bv s) = bv (d.take k ++ s ++ d.drop (k + s.length)) := by
 unfold splice bv
 simp [List.map_take, List.map_drop]
def zeros (n : Nat) : List UInt8 := List.replicate n 0
theorem zeros_length (n : Nat) : (zeros n).length = n := by simp [zeros]
theorem made_bv (n : Nat) : madeCells #[.int .u8 0] n = (bv (zeros n)).toArray := by
 apply Array.ext
 · simp [madeCells, bv, zeros]
 · intro i h1 h2
   simp [madeCells, bv, zeros, Nat.mod_one]
theorem filled (l : List UInt8) (h : l.length ≤ 64) : l ++ (zeros 64).drop l.length = bytesOf 64 (byte l) := by
 apply List.ext_getElem
 · simp [bytesOf_length, zeros_length]; omega
 · intro i h1 h2
   rw [bytesOf_at, List.getElem_append]
   unfold byte
   rw [List.getD_eq_getElem?_getD]
   split
   · rename_i hi
     rw [List.getElem?_eq_getElem hi]
     simp
   · rename_i hi
     rw [List.getElem?_eq_none (by omega)]
     simp only [zeros, List.getElem_drop, List.getElem_replicate]
     rfl
theorem wpList_copy_bytes {P : Program} {w : World} {ops : Array Oper} {rest : List Oper} {o : Oper} {a : Act} {Q : Exit → Act → World → Prop} (hgd : o.guard = none) (d s : Operand) (dT : TypeId)
    (ho : o.op = .call { callee := .builtin .copy, args := #[d, s], argTypes := #[dT, dT] }) (elem : TypeId) (hu : P.underlying dT = some (.slice elem)) (hsz : (P.info? elem).map (·.size) = some 1)
    (g off dLen dCap : Nat) (sp : Option Addr) (sCap : Nat) (x l : List UInt8) (t : TypeId) (hd : a.eval d = .slice (some ⟨g, off, none⟩) dLen dCap) (hs : a.eval s = .slice sp l.length sCap)
    (hg : Byt w g t x) (hl : l.length ≤ dLen) (hsrc : Bs w sp l) (hfit : off + l.length ≤ x.length)
    (B : Nat) (w0 : World) (hb : Below B w0 w) (hBg : B ≤ g) (z : List UInt8) (hz : z = x.take off ++ l ++ x.drop (off + l.length))
    (h : ∀ w', Byt w' g t z → Below B w0 w' → wpList P ops Q rest (a.put o.dst (goInt l.length)) w') :
    wpList P ops Q (o :: rest) a w := by
  refine wpList_copy_splice hgd d s dT dT ho elem hu hsz (some ⟨g, off, none⟩) sp dLen dCap l.length sCap hd hs g off (bv x) t hg (bv l) (by rw [bv_length]; exact (Nat.min_eq_left hl).symm) (fun h0 => ⟨rfl, ?_⟩) (by rw [bv_length, bv_length]; exact hfit) (bv_one _) B w0 hb hBg (fun w' h1 h2 => ?_)
  · obtain ⟨ad, h1, _, h3⟩ := copy_src hsrc h0
    exact ⟨ad, h1, h3⟩
  · rw [bv_length]
    refine h w' ?_ h2
    have := h1.out
    rw [splice_bv, ← hz] at this
    exact this
end Go.Proofs.YtpoinibckmbfcaaGreatDoor.MacT
namespace Go.Proofs.YtpoinibckmbfcaaGreatDoor.MacT
open Go.RowKit Kit ShaMath ShaT MacM
set_option linter.unusedVariables false
set_option maxRecDepth 100000
theorem info_u8 : (Tryz.prog.info? 5).map (·.size) = some 1 := by kernel_rfl
theorem u8_parts : (Tryz.prog.info? 5).map (fun i => (i.zero, i.size, i.bytes)) = some (some (.int .u8 0), 1, 1) := by kernel_rfl
theorem zeros_eq (n : Nat) : bytesOf n (fun _ => 0) = zeros n := by
 unfold bytesOf zeros
 apply List.ext_getElem
 · simp
 · intro i h1 h2
   simp
theorem byt_zero {w : World} {b n : Nat} {t : TypeId} (h : Arr w b .u8 n t fun _ => 0) : Byt w b t (zeros n) := by
 have := arr_byt h (fun _ => by decide)
 rwa [zeros_eq] at this
theorem filled_eq {l : List UInt8} (hl : l.length ≤ 64) : bytesOf 64 (byte l) = (zeros 64).take 0 ++ l ++ (zeros 64).drop (0 + l.length) := by
 rw [List.take_zero, List.nil_append, Nat.zero_add, filled l hl]
structure TurnRel (w : World) (K : Nat → Nat) (v k : Nat) (wr : World) : Prop where
 b : Below w.heap.size w wr
 a : Arr wr w.heap.size .u8 64 140 (fun j => if j < k then padAt K v j else K j)
 z : Arr wr (w.heap.size + 1) .u8 64 140 (fun _ => 0)
theorem TurnRel.next {w : World} {K : Nat → Nat} {v k : Nat} {wr : World} (h : TurnRel w K v k wr) : TurnRel w K v (k + 1) (wr.setCell ⟨w.heap.size, k, none⟩ (.int .u8 ((K k ^^^ v : Nat) : Int))) :=
 ⟨h.b.setCell (by simp) _, (h.a.set k (K k ^^^ v)).congr fun j hj => by
  unfold upd
  show (if j = k then K k ^^^ v else if j < k then padAt K v j else K j) = if j < k + 1 then padAt K v j else K j
  by_cases e : j = k
  · subst e
    rw [if_pos rfl, if_pos (by omega)]
    rfl
  · rw [if_neg e]
    by_cases h1 : j < k
    · rw [if_pos h1, if_pos (by omega)]
    · rw [if_neg h1, if_neg (by omega)], h.z.other _ _ (by simp)⟩
end Go.Proofs.YtpoinibckmbfcaaGreatDoor.MacT
namespace Go.Proofs.YtpoinibckmbfcaaGreatDoor.MacT
open Go.RowKit Kit ShaMath ShaT MacM
set_option linter.unusedVariables false
set_option maxRecDepth 100000
def Made (L : List UInt8) (w : World) (e : Ending) (w' : World) : Prop :=
 ∃ g, e = .returned (.slice (some ⟨g, 0, none⟩) L.length L.length) ∧ Byt w' g 5 L ∧ Below w.heap.size w w'
theorem made_byt1 (w : World) (o : Obj) (n : Nat) : Byt ((w.alloc o).alloc (.cells (madeCells #[.int .u8 0] n) 5)) (w.heap.size + 1) 5 (zeros n) := by
 unfold Byt
 rw [made_bv]
 have := heap_alloc_last (w.alloc o) (.cells (bv (zeros n)).toArray 5)
 rwa [show (w.alloc o).heap.size = w.heap.size + 1 by simp] at this
theorem made_byt0 (w : World) (n : Nat) : Byt (w.alloc (.cells (madeCells #[.int .u8 0] n) 5)) w.heap.size 5 (zeros n) := by
 unfold Byt
 rw [made_bv]
 exact heap_alloc_last w _
theorem Byt.at_ {w : World} {g : Nat} {t : TypeId} {l : List UInt8} (h : Byt w g t l) (j : Nat) (hj : j < l.length) : w.cell? ⟨g, j, none⟩ = some (.int .u8 (l[j].toNat : Int)) := by
 rw [cell_of_row w g j _ t _ h]
 simp [bv, hj]
theorem Byt.frz {w : World} {g : Nat} {t : TypeId} {l : List UInt8} (h : Byt w g t l) (j : Nat) : w.frozen? ⟨g, j, none⟩ = false := frozen_of_row w g j _ t h
end Go.Proofs.YtpoinibckmbfcaaGreatDoor.MacT
namespace Go.Proofs.YtpoinibckmbfcaaGreatDoor.MacT
open Go.RowKit Kit ShaMath ShaT MacM
set_option linter.unusedVariables false
set_option maxRecDepth 100000
structure Key0 (w : World) (K : Nat → Nat) (wr : World) : Prop where
 b : Below w.heap.size w wr
 k : Arr wr w.heap.size .u8 64 140 K
 z : Arr wr (w.heap.size + 1) .u8 32 89 (fun _ => 0)
theorem Key0.keep {w : World} {K : Nat → Nat} {wr w' : World} (h : Key0 w K wr) (hb : Below wr.heap.size wr w') : Key0 w K w' :=
 ⟨h.b.trans (hb.mono h.b.size), h.k.keep hb h.k.lt, h.z.keep hb h.z.lt⟩
structure KeyRel (w : World) (K S : Nat → Nat) (g : Nat) (wr : World) : Prop where
 o : Key0 w K wr
 s : Arr wr g .u8 32 89 S
theorem KeyRel.drew {w : World} {K S : Nat → Nat} {g : Nat} {wr : World} (h : KeyRel w K S g wr) : KeyRel w K S g wr.drew := ⟨⟨h.o.b.drew, h.o.k, h.o.z⟩, h.s⟩
theorem KeyRel.keep {w : World} {K S : Nat → Nat} {g : Nat} {wr w' : World} (h : KeyRel w K S g wr) (hb : Below wr.heap.size wr w') : KeyRel w K S g w' :=
 ⟨h.o.keep hb, h.s.keep hb h.s.lt⟩
end Go.Proofs.YtpoinibckmbfcaaGreatDoor.MacT
namespace Go.Proofs.YtpoinibckmbfcaaGreatDoor.MacT
open Go.RowKit Kit ShaMath ShaT MacM
set_option linter.unusedVariables false
set_option maxRecDepth 100000
theorem fit_yes (r : Int) (w : World) (h0 : 1 ≤ r) (h1 : r ≤ 64) :
  Calls Tryz.prog 103 #[.int .i64 r] w fun e w' => e = .returned (.bool true) ∧ w = w' := by
 have d1 : decide (1 ≤ r) = true := decide_eq_true h0
 have d2 : decide (r ≤ 64) = true := decide_eq_true h1
 go_enter Tryz.func103, Tryz.ntmps103
 go_wp2
 go_ret
 exact ⟨rfl, rfl⟩
theorem fit_no (r : Int) (w : World) (h : ¬ (1 ≤ r ∧ r ≤ 64)) :
  Calls Tryz.prog 103 #[.int .i64 r] w fun e w' => e = .returned (.bool false) ∧ w = w' := by
 by_cases h0 : 1 ≤ r
 · have h1 : ¬ r ≤ 64 := fun h' => h ⟨h0, h'⟩
   have d1 : decide (1 ≤ r) = true := decide_eq_true h0
   have d2 : decide (r ≤ 64) = false := decide_eq_false h1
   clear h
   go_enter Tryz.func103, Tryz.ntmps103
   go_wp2
   go_ret
   exact ⟨rfl, rfl⟩
 · have d1 : decide (1 ≤ r) = false := decide_eq_false h0
   clear h
   go_enter Tryz.func103, Tryz.ntmps103
   go_wp2
   go_ret
   exact ⟨rfl, rfl⟩
def unl (a b : List UInt8) : Nat → Nat
  | 0 => 0
  | k + 1 => unl a b k ||| (byte a k ^^^ byte b k)
theorem unl_succ (a b : List UInt8) (k : Nat) : unl a b (k + 1) = unl a b k ||| (byte a k ^^^ byte b k) := by rw [unl]
theorem unl_lt (a b : List UInt8) : ∀ k, unl a b k < 256
  | 0 => by show 0 < 256; decide
  | k + 1 => by rw [unl_succ]; exact Nat.or_lt_two_pow (n := 8) (unl_lt a b k) (Nat.xor_lt_two_pow (n := 8) (byte_lt _ _) (byte_lt _ _))
theorem xor_zero {a b : Nat} (h : a ^^^ b = 0) : a = b := by
 have h2 : (a ^^^ b) ^^^ b = 0 ^^^ b := by rw [h]
 rwa [Nat.xor_assoc, Nat.xor_self, Nat.xor_zero, Nat.zero_xor] at h2
theorem unl_zero (a b : List UInt8) : ∀ k, unl a b k = 0 ↔ ∀ j, j < k → byte a j = byte b j
  | 0 => ⟨fun _ j hj => by omega, fun _ => rfl⟩
  | k + 1 => by
    rw [unl_succ, Nat.or_eq_zero_iff, unl_zero a b k]
    constructor
    · rintro ⟨h1, h2⟩ j hj
      by_cases e : j = k
      · subst e
        exact xor_zero h2
      · exact h1 j (by omega)
    · intro h
      exact ⟨fun j hj => h j (by omega), by rw [h k (by omega), Nat.xor_self]⟩
theorem byte_at (l : List UInt8) (j : Nat) (h : j < l.length) : byte l j = l[j].toNat := by
 unfold byte
 rw [List.getD_eq_getElem?_getD, List.getElem?_eq_getElem h]
 rfl
theorem unl_eq {a b : List UInt8} (h : a.length = b.length) : (unl a b a.length == 0) = decide (a = b) := by
 rw [Bool.eq_iff_iff, beq_iff_eq, decide_eq_true_eq, unl_zero]
 constructor
 · intro hh
   apply List.ext_getElem h
   intro j h1 h2
   have := hh j h1
   rw [byte_at a j h1, byte_at b j h2] at this
   exact UInt8.toNat_inj.1 this
 · rintro rfl j _
   rfl
end Go.Proofs.YtpoinibckmbfcaaGreatDoor.MacT
namespace Go.Proofs.YtpoinibckmbfcaaGreatDoor.HexW
open Go.RowKit Kit HexMath ShaT
set_option linter.unusedVariables false
set_option maxRecDepth 100000
theorem ret_ub {a a' : Int} {b b' : Bool} (h : a = a') (h' : b = b') : Ending.returned (.tuple #[.int .u8 a, .bool b]) = .returned (.tuple #[.int .u8 a', .bool b']) := by rw [h, h']
theorem digV_low {c : UInt8} (h1 : 48 ≤ c.toNat) (h2 : c.toNat ≤ 57) : digV c = some (c.toNat - 48) := if_pos ⟨h1, h2⟩
theorem digV_high {c : UInt8} (h1 : 97 ≤ c.toNat) (h2 : c.toNat ≤ 102) : digV c = some (c.toNat - 87) := by
 unfold digV
 rw [if_neg (by omega), if_pos ⟨h1, h2⟩]
theorem digV_none {c : UInt8} (h1 : ¬ (48 ≤ c.toNat ∧ c.toNat ≤ 57)) (h2 : ¬ (97 ≤ c.toNat ∧ c.toNat ≤ 102)) : digV c = none := by
 unfold digV
 rw [if_neg h1, if_neg h2]
def digI (c : UInt8) : Int := ((digV c).getD 0 : Nat)
def digB (c : UInt8) : Bool := (digV c).isSome
set_option maxHeartbeats 400000 in
theorem digit_all (c : UInt8) (w : World) :
  Calls Tryz.prog 142 #[.int .u8 (c.toNat : Int)] w fun e w' => e = .returned (.tuple #[.int .u8 (digI c), .bool (digB c)]) ∧ w = w' := by
 have h256 := UInt8.toNat_lt c
 by_cases h1 : 48 ≤ c.toNat
 · have d1 : decide (48 ≤ (c.toNat : Int)) = true := decide_eq_true (by omega)
   by_cases h2 : c.toNat ≤ 57
   · have d2 : decide ((c.toNat : Int) ≤ 57) = true := decide_eq_true (by omega)
     have HV := Lib.hid (digV_low h1 h2)
     go_enter Tryz.func142, Tryz.ntmps142
     go_wp2
     go_ret2
     exact ⟨ret_ub (by unfold digI; rw [HV.out]; simp; omega) (by unfold digB; rw [HV.out]; rfl), rfl⟩
   · have d2 : decide ((c.toNat : Int) ≤ 57) = false := decide_eq_false (by omega)
     by_cases h3 : 97 ≤ c.toNat
     · have d3 : decide (97 ≤ (c.toNat : Int)) = true := decide_eq_true (by omega)
       by_cases h4 : c.toNat ≤ 102
       · have d4 : decide ((c.toNat : Int) ≤ 102) = true := decide_eq_true (by omega)
         have HV := Lib.hid (digV_high h3 h4)
         go_enter Tryz.func142, Tryz.ntmps142
         go_wp2
         go_ret2
         exact ⟨ret_ub (by unfold digI; rw [HV.out]; simp; omega) (by unfold digB; rw [HV.out]; rfl), rfl⟩
       · have d4 : decide ((c.toNat : Int) ≤ 102) = false := decide_eq_false (by omega)
         have HV := Lib.hid (digV_none (c := c) (by omega) (by omega))
         go_enter Tryz.func142, Tryz.ntmps142
         go_wp2
         go_ret2
         exact ⟨ret_ub (by unfold digI; rw [HV.out]; rfl) (by unfold digB; rw [HV.out]; rfl), rfl⟩
     · have d3 : decide (97 ≤ (c.toNat : Int)) = false := decide_eq_false (by omega)
       have HV := Lib.hid (digV_none (c := c) (by omega) (by omega))
       go_enter Tryz.func142, Tryz.ntmps142
       go_wp2
       go_ret2
       exact ⟨ret_ub (by unfold digI; rw [HV.out]; rfl) (by unfold digB; rw [HV.out]; rfl), rfl⟩
 · have d1 : decide (48 ≤ (c.toNat : Int)) = false := decide_eq_false (by omega)
   have d3 : decide (97 ≤ (c.toNat : Int)) = false := decide_eq_false (by omega)
   have HV := Lib.hid (digV_none (c := c) (by omega) (by omega))
   go_enter Tryz.func142, Tryz.ntmps142
   go_wp2
   go_ret2
   exact ⟨ret_ub (by unfold digI; rw [HV.out]; rfl) (by unfold digB; rw [HV.out]; rfl), rfl⟩
theorem digit_yes {c : UInt8} {x : Nat} (h : digV c = some x) (w : World) :
  Calls Tryz.prog 142 #[.int .u8 (c.toNat : Int)] w fun e w' => e = .returned (.tuple #[.int .u8 (x : Int), .bool true]) ∧ w = w' := by
 have := digit_all c w
 unfold digI digB at this
 rw [h] at this
 exact this
theorem digit_no {c : UInt8} (h : digV c = none) (w : World) :
  Calls Tryz.prog 142 #[.int .u8 (c.toNat : Int)] w fun e w' => e = .returned (.tuple #[.int .u8 0, .bool false]) ∧ w = w' := by
 have := digit_all c w
 unfold digI digB at this
 rw [h] at this
 exact this
def UnhexPost (s : List UInt8) (w : World) (e : Ending) (w' : World) : Prop :=
 (unhexL s = none ∧ e = .returned (.tuple #[.slice none 0 0, .bool false]) ∧ Below w.heap.size w w') ∨
 ∃ out v, unhexL s = some out ∧ e = .returned (.tuple #[v, .bool true]) ∧ w'.ownsRow w.heap.size 5 1 v out.length (bv out) ∧ Below w.heap.size w w'
theorem join_val (x y : Nat) (hx : x < 16) (hy : y < 16) : bits .or .u8 ((x : Int) * 16) (y : Int) = ((UInt8.ofNat (16 * x + y)).toNat : Int) := by
 have h : (UInt8.ofNat (16 * x + y)).toNat = (16 * x + y) % 256 := UInt8.toNat_ofNat'
 rw [h, show (x : Int) * 16 = ((x * 16 : Nat) : Int) by omega, u8_or_nat _ _ (by omega) (by omega), nat_join 4 (x * 16) y (by omega) (by omega)]
 congr 1
 omega
theorem step_next (s : ByteArray) (out : List UInt8) (m x y : Nat) (hm : m + 1 < s.size) (h : unhexL (s.data.toList.take m) = some out) (hx : digV s[m] = some x) (hy : digV s[m + 1] = some y) : unhexL (s.data.toList.take (m + 2)) = some (out ++ [UInt8.ofNat (16 * x + y)]) :=
 unhex_next s.data.toList out m x y (by simpa using hm) h hx hy
theorem step_stop (s : ByteArray) (out : List UInt8) (m : Nat) (hm : m + 1 < s.size) (h : unhexL (s.data.toList.take m) = some out) (hb : digV s[m] = none ∨ digV s[m + 1] = none) : unhexL s.data.toList = none :=
 unhex_stop s.data.toList out m (by simpa using hm) h hb
set_option maxHeartbeats 2000000 in
theorem unhex_any (s : ByteArray) (w : World) (hz : s.size ≤ 140737488351232) :
  Calls Tryz.prog 118 #[.string s] w (UnhexPost s.data.toList w) := by
 obtain ⟨i0, hi0, hz0, hz1, hzb⟩ := info_parts u8_info
 have HL := Lib.hid (show s.data.toList.length = s.size by simp)
 by_cases hodd : s.size % 2 = 0
 · have d0 : (((s.size : Int) % 2) != 0) = false := by simp; omega
   have hmk := run_make (P := Tryz.prog) w 30 5 i0 (.int .u8 0) Tryz.underlying30 hi0 hz0 .i64 .i64 0 ((s.size : Int) / 2) (by omega) (by omega) (by rw [hzb]; omega) (by omega)
   rw [hz1, show ((s.size : Int) / 2).toNat * 1 = s.size / 2 by omega, show ((s.size : Int) / 2).toNat = s.size / 2 by omega] at hmk
   have HO := Lib.hid hodd
   clear hodd
   go_enter Tryz.func118, Tryz.ntmps118
   go_wp2_with fail
   go_loopw [4, 5] (fun v i wr => ∃ (m : Nat) (out : List UInt8), m ≤ s.size ∧ m % 2 = 0 ∧ i = .int .i64 m ∧ Below w.heap.size w wr ∧ wr.ownsRow w.heap.size 5 1 v out.length (bv out) ∧ 2 * out.length = m ∧ unhexL (s.data.toList.take m) = some out) (fun _ i _ => s.size - (intOf i).toNat)
   case atStart => exact ⟨0, [], by omega, rfl, rfl, below1 _ _, World.ownsRow_made w _ (s.size / 2) (Nat.le_refl _) (by unfold maxLen; omega) (by rw [size_madeCells, Nat.mul_one]), rfl, rfl⟩
   case round =>
    obtain ⟨m, out, hm, hpar, rfl, hbel, hown, hol, hun⟩ := hrel
    have HU := Lib.hid hun
    have HOL := Lib.hid hol
    have HP := Lib.hid hpar
    have hou : out.length ≤ s.size := by omega
    have hbs := hbel.size
    clear hun
    by_cases hlt : m < s.size
    · have hm1 : m + 1 < s.size := by have := HO.out; omega
      clear hol hpar
      cases hx : digV s[m] with
      | none =>
        have HN := Lib.hid (step_stop s out m hm1 HU.out (Or.inl hx))
        have HX := Lib.hid hx
        clear hx
        go_wp2_with (go_at_call 142; (first | (with_reducible refine (digit_no HX.out _).mono ?_) | (with_reducible refine (digit_all s[m + 1] _).mono ?_)); rintro e w' ⟨rfl, rfl⟩)
        go_ret2
        exact Or.inl ⟨HN.out, rfl, hbel⟩
      | some x =>
        cases hy : digV s[m + 1] with
        | none =>
          have HN := Lib.hid (step_stop s out m hm1 HU.out (Or.inr hy))
          have HX := Lib.hid hx
          have HY := Lib.hid hy
          clear hx hy
          go_wp2_with (go_at_call 142; (first | (with_reducible refine (digit_yes HX.out _).mono ?_) | (with_reducible refine (digit_no HY.out _).mono ?_)); rintro e w' ⟨rfl, rfl⟩)
          go_ret2
          exact Or.inl ⟨HN.out, rfl, hbel⟩
        | some y =>
          have HN := Lib.hid (step_next s out m x y hm1 HU.out hx hy)
          have hx16 := digV_lt hx
          have hy16 := digV_lt hy
          have hj := join_val x y hx16 hy16
          have HX := Lib.hid hx
          have HY := Lib.hid hy
          clear hx hy
          go_wp2_with (first | (go_at_call 142; (first | (with_reducible refine (digit_yes HX.out _).mono ?_) | (with_reducible refine (digit_yes HY.out _).mono ?_)); rintro e w' ⟨rfl, rfl⟩) | (at_builtin; refine wpList_append_own _ rfl (.tmp 45) (.tmp 50) 30 rfl w.heap.size 5 i0 (.int .u8 0) 1 1 Tryz.underlying30 hi0 hz0 hz1 hzb rfl (by decide) u4 out.length _ rfl (hown.alloc _) ⟨wr.heap.size, 0, none⟩ 1 1 [.int .u8 ((UInt8.ofNat (16 * x + y)).toNat : Int)] rfl rfl (one_news _ _ _) (by simp [Value.oneCell']) (by unfold maxLen; omega) (by omega) (by simp; omega) ?_; intro v' w1 hown1 hgrow _))
          go_roundw
          case rel => exact ⟨m + 2, out ++ [UInt8.ofNat (16 * x + y)], by omega, by have := HP.out; omega, by go_num, (hbel.alloc hbs _).grown hgrow (by simp; omega) (own_base hown), by rw [List.length_append, bv_snoc]; exact hown1, by rw [List.length_append]; have := HOL.out; simp; omega, HN.out⟩
          case measure => simp [intOf]; omega
    · have HA : Hid (unhexL s.data.toList = some out) := by
       have h := HU.out
       rw [List.take_of_length_le (by rw [HL.out]; omega)] at h
       exact h
      clear hol hpar
      have HW := Lib.hid hown
      clear hown
      go_wp2_with fail
      go_ret2
      exact Or.inr ⟨out, _, HA.out, rfl, HW.out, hbel⟩
 · have d0 : (((s.size : Int) % 2) != 0) = true := by simp; omega
   have HN := Lib.hid (unhex_odd s.data.toList (by rw [HL.out]; omega))
   go_enter Tryz.func118, Tryz.ntmps118
   go_wp2_with fail
   go_ret2
   exact Or.inl ⟨HN.out, rfl, Below.refl _ _⟩
end Go.Proofs.YtpoinibckmbfcaaGreatDoor.HexW
namespace Go.Proofs.YtpoinibckmbfcaaGreatDoor.MacT
open Go.RowKit Kit ShaMath ShaT MacM HexMath HexW NumL NumMath
set_option linter.unusedVariables false
set_option maxRecDepth 100000
def Mx (w : World) : Prop := ∃ m, w.cell? ⟨1, 0, none⟩ = some (.int .i64 m)
theorem Mx.of_shape {w : World} (h : w.ShapedOpen Tryz.prog) : Mx w := Tryz.laysM147.s1_3 w h
theorem Mx.keep {w w' : World} (h : Mx w) (hb : Below w.heap.size w w') : Mx w' := by
 obtain ⟨m, hm⟩ := h
 exact ⟨m, by rw [hb.cell (p := ⟨_, 0, none⟩) (Go.block_lt_of_cell hm)]; exact hm⟩
theorem splitK_miss {l : List UInt8} (k : Nat) (h : cutL l = none) : Lib.splitK [58] 0 k l = [l] := by
 cases k with
 | zero => rfl
 | succ k =>
   have hi : Lib.index l [58] = -1 := by
    rw [Lib.index_one, index_cut, h]
   unfold Lib.splitK
   rw [hi]
   rfl
theorem splitK_hit {l a b : List UInt8} (k : Nat) (h : cutL l = some (a, b)) : Lib.splitK [58] 0 (k + 1) l = a :: Lib.splitK [58] 0 k b := by
 have hi : Lib.index l [58] = (a.length : Int) := by
  rw [Lib.index_one, index_cut, h]
 obtain ⟨hl, _⟩ := cutL_some h
 rw [Lib.splitK, hi]
 have h1 : ¬ (((a.length : Int) == -1) = true) := by
  rw [beq_iff_eq]; omega
 rw [if_neg h1, Int.toNat_natCast, Nat.add_zero]
 have e1 : l.take a.length = a := by rw [hl]; simp
 have e2 : l.drop (a.length + [(58 : UInt8)].length) = b := by rw [hl]; simp
 rw [e1, e2]
theorem splitK_three {l a b c : List UInt8} (h : three l = some (a, b, c)) : Lib.splitK [58] 0 2 l = [a, b, c] := by
 unfold three at h
 split at h
 · cases h
 · rename_i x r hx
   split at h
   · cases h
   · rename_i y z hy
     simp only [Option.some.injEq, Prod.mk.injEq] at h
     obtain ⟨rfl, rfl, rfl⟩ := h
     rw [splitK_hit 1 hx, splitK_hit 0 hy]
     rfl
theorem splitK_other {l : List UInt8} (h : three l = none) : (Lib.splitK [58] 0 2 l).length ≤ 2 := by
 unfold three at h
 split at h
 · rename_i hx
   rw [splitK_miss 2 hx]
   simp
 · rename_i x r hx
   split at h
   · rename_i hy
     rw [splitK_hit 1 hx, splitK_miss 1 hy]
     simp
   · cases h
theorem three_size {l a b c : List UInt8} (h : three l = some (a, b, c)) : l.length = a.length + b.length + c.length + 2 := by
 unfold three at h
 split at h
 · cases h
 · rename_i x r hx
   split at h
   · cases h
   · rename_i y z hy
     simp only [Option.some.injEq, Prod.mk.injEq] at h
     obtain ⟨rfl, rfl, rfl⟩ := h
     obtain ⟨h1, -⟩ := cutL_some hx
     obtain ⟨h2, -⟩ := cutL_some hy
     rw [h1, h2]
     simp
     omega
theorem map_data {L : List ByteArray} {a b c : List UInt8} (h : L.map (·.data.toList) = [a, b, c]) : L = [⟨a.toArray⟩, ⟨b.toArray⟩, ⟨c.toArray⟩] := by
 match L, h with
 | [x, y, z], h =>
   simp only [List.map_cons, List.map_nil, List.cons.injEq, and_true] at h
   obtain ⟨rfl, rfl, rfl⟩ := h
   rfl
def Words (a b c : List UInt8) (w : World) (e : Ending) (w' : World) : Prop :=
 ∃ g, e = .returned (.slice (some ⟨g, 0, none⟩) 3 3) ∧ w'.cell? ⟨g, 0, none⟩ = some (.string ⟨a.toArray⟩) ∧ w'.cell? ⟨g, 1, none⟩ = some (.string ⟨b.toArray⟩) ∧ w'.cell? ⟨g, 2, none⟩ = some (.string ⟨c.toArray⟩) ∧ g < w'.heap.size ∧ Below w.heap.size w w'
def Fewer (w : World) (e : Ending) (w' : World) : Prop := ∃ p n c, e = .returned (.slice p n c) ∧ n ≤ 2 ∧ Below w.heap.size w w'
theorem split_three (s : ByteArray) (a b c : List UInt8) (h : three s.data.toList = some (a, b, c)) (w : World) (hz : s.size ≤ 1048576) (hm : Mx w) :
  Calls Tryz.prog 116 #[.string s, .string ⟨#[58]⟩, .int .i64 3] w (Words a b c w) := by
 obtain ⟨m, hm⟩ := hm
 refine (Tryz.strings_SplitN s ⟨#[58]⟩ 3 m w (by omega) hm (by decide) (by decide) (by decide)).mono ?_
 have hs : s.data.toList.length = s.size := by simp
 have hl := three_size h
 have hmin : min 3 (s.size + 1) = 3 := by omega
 have hd := Lib.splitB_data ⟨#[58]⟩ 0 2 s
 rw [show (⟨#[58]⟩ : ByteArray).data.toList = [58] from rfl, splitK_three h] at hd
 rintro e w' ⟨he, hw⟩
 rw [hmin] at he hw
 rw [map_data hd] at he hw
 refine ⟨w.heap.size, he, ?_⟩
 subst hw
 have hc := heap_alloc_last w (.cells (Lib.cellsOf [⟨a.toArray⟩, ⟨b.toArray⟩, ⟨c.toArray⟩] 3) 9)
 refine ⟨?_, ?_, ?_, by simp, below1 _ _⟩
 · rw [cell_of_row _ _ 0 _ _ _ hc]; rfl
 · rw [cell_of_row _ _ 1 _ _ _ hc]; rfl
 · rw [cell_of_row _ _ 2 _ _ _ hc]; rfl
theorem split_other (s : ByteArray) (h : three s.data.toList = none) (w : World) (hz : s.size ≤ 1048576) (hm : Mx w) :
  Calls Tryz.prog 116 #[.string s, .string ⟨#[58]⟩, .int .i64 3] w (Fewer w) := by
 obtain ⟨m, hm⟩ := hm
 refine (Tryz.strings_SplitN s ⟨#[58]⟩ 3 m w (by omega) hm (by decide) (by decide) (by decide)).mono ?_
 rintro e w' ⟨he, hw⟩
 refine ⟨_, _, _, he, ?_, by rw [hw]; exact below1 _ _⟩
 by_cases h2 : 2 ≤ s.size
 · have hd := congrArg List.length (Lib.splitB_data ⟨#[58]⟩ 0 2 s)
   rw [List.length_map] at hd
   rw [show min 3 (s.size + 1) - 1 = 2 by omega, hd]
   exact splitK_other h
 · have := Lib.splitB_length_le ⟨#[58]⟩ 0 (min 3 (s.size + 1) - 1) s
   omega
theorem own_full {w : World} {base n : Nat} {v : Value} {l : List UInt8} (h : w.ownsRow base 5 1 v n (bv l)) : ∃ p c, v = .slice p l.length c ∧ Bs w p l ∧ l.length ≤ c ∧ c ≤ 9223372036854775807 ∧ (p = none → c = 0) := by
 obtain ⟨p, c, hv, hb⟩ := own_bs h
 have hl : l.length = n := by have := h.1; rw [bv_length] at this; omega
 refine ⟨p, c, hv, hb, ?_⟩
 rcases h.2 with ⟨e, h0⟩ | ⟨g, cap, cur, e, _, _, h1, h2, _⟩
 · rw [hv] at e
   injection e with e1 e2 e3
   subst e1 e3
   exact ⟨by omega, by omega, fun _ => rfl⟩
 · rw [hv] at e
   injection e with e1 e2 e3
   subst e1 e3
   unfold maxLen at h2
   exact ⟨by omega, by omega, fun h => by cases h⟩
def UnB (l : List UInt8) (w : World) (e : Ending) (w' : World) : Prop :=
 ∃ p n c, e = .returned (.tuple #[.slice p n c, .bool (unhexL l).isSome]) ∧ (∀ out, unhexL l = some out → out.length = n ∧ Bs w' p out ∧ n ≤ c ∧ c ≤ 9223372036854775807 ∧ (p = none → c = 0)) ∧ Below w.heap.size w w'
theorem unhex_b (l : List UInt8) (w : World) (hz : l.length ≤ 1048576) : Calls Tryz.prog 118 #[.string ⟨l.toArray⟩] w (UnB l w) := by
 refine (unhex_any ⟨l.toArray⟩ w (by rw [size_bytes]; omega)).mono ?_
 rintro e w' (⟨hn, he, hb⟩ | ⟨out, v, hu, he, ho, hb⟩)
 · have hn' : unhexL l = none := hn
   exact ⟨none, 0, 0, by rw [hn']; exact he, fun out h => (by rw [hn'] at h; cases h), hb⟩
 · have hu' : unhexL l = some out := hu
   obtain ⟨p, c, rfl, hbs, h1, h2, h3⟩ := own_full ho
   refine ⟨p, out.length, c, by rw [hu']; exact he, fun out' h => ?_, hb⟩
   rw [hu'] at h
   injection h with h
   subst h
   exact ⟨rfl, hbs, h1, h2, h3⟩
theorem parse_b (l : List UInt8) (w : World) (hz : l.length ≤ 1048576) (hg : NumL.Gd w) : Calls Tryz.prog 117 #[.string ⟨l.toArray⟩] w fun e w' => e = .returned (.tuple #[.int .i64 (pV l), .bool (pB l)]) ∧ Below w.heap.size w w' :=
 parse_any ⟨l.toArray⟩ (by rw [size_bytes]; omega) w hg
end Go.Proofs.YtpoinibckmbfcaaGreatDoor.MacT
namespace Go.Proofs.YtpoinibckmbfcaaGreatDoor.MacT
open Go.RowKit Kit ShaMath ShaT MacM HexMath HexW NumL NumMath
set_option linter.unusedVariables false
set_option maxRecDepth 100000
theorem z3_info : (Tryz.prog.info? 98).map (·.size) = some 3 := by kernel_rfl
theorem build_z3 (w : World) : (Instr.build 98 #[]).run Tryz.prog w = .ok (.agg #[.int .i64 0, .slice none 0 0, .slice none 0 0]) w := run_build w 98 _ _ (by kernel_rfl)
theorem results_cell_slot {P : Program} {fn : Func} {p q : Tmp} {ty : TypeId} (h : fn.results = #[.cell p ty, .tmp q]) (tmps : Array Value) (w : World) (g : Nat) (t : TypeId) (cs : Array Value) (fr : Nat × Nat) (d : TypeDesc) (v : Value)
    (hp : tmps.getD p undef = .pointer (some ⟨g, 0, none⟩)) (hg : w.heap[g]? = some (.cells cs t fr))
    (hu : P.underlying ty = some d) (hd : (match d with | .struct _ | .array _ _ => true | _ => false) = true) (hi : (P.info? ty).map (·.size) = some cs.size) (hq : tmps.getD q undef = v) :
    (results fn tmps).run P w = .ok (.tuple #[.agg cs, v]) w := by
  have hp' : tmps[p]?.getD undef = .pointer (some ⟨g, 0, none⟩) := by simpa using hp
  have hq' : tmps[q]?.getD undef = v := by simpa using hq
  simp [results, h, hp', hq', asAddr, run_loadVar_row w g t ty cs fr d hg hu hd hi]
def ParseB (R : Option (Int × List UInt8 × List UInt8)) (w : World) (e : Ending) (w' : World) : Prop :=
 match R with
 | none => e = .returned (.tuple #[.agg #[.int .i64 0, .slice none 0 0, .slice none 0 0], .bool false]) ∧ Below w.heap.size w w'
 | some (r, salt, d) => ∃ p1 c1 p2 c2, e = .returned (.tuple #[.agg #[.int .i64 r, .slice p1 salt.length c1, .slice p2 32 c2], .bool true]) ∧ Bs w' p1 salt ∧ salt.length ≤ c1 ∧ c1 ≤ 9223372036854775807 ∧ (p1 = none → c1 = 0) ∧ Bs w' p2 d ∧ 1 ≤ r ∧ r ≤ 64 ∧ salt.length ≤ 32 ∧ d.length = 32 ∧ Below w.heap.size w w'
theorem parseB_no {R : Option (Int × List UInt8 × List UInt8)} {w w' : World} (h : R = none) (hb : Below w.heap.size w w') : ParseB R w (.returned (.tuple #[.agg #[.int .i64 0, .slice none 0 0, .slice none 0 0], .bool false])) w' := by
 subst h
 exact ⟨rfl, hb⟩
theorem parseB_yes {R : Option (Int × List UInt8 × List UInt8)} {r rv : Int} {salt d : List UInt8} {n1 k1 k2 : Nat} {p1 p2 : Option Addr} {w w' : World} (h : R = some (r, salt, d)) (hr : rv = r) (hn : salt.length = n1) (h1 : Bs w' p1 salt) (h2 : n1 ≤ k1) (h3 : k1 ≤ 9223372036854775807) (h4 : p1 = none → k1 = 0) (h5 : Bs w' p2 d) (h6 : 1 ≤ r ∧ r ≤ 64) (h7 : n1 ≤ 32) (h8 : d.length = 32) (hb : Below w.heap.size w w') :
  ParseB R w (.returned (.tuple #[.agg #[.int .i64 rv, .slice p1 n1 k1, .slice p2 32 k2], .bool true])) w' := by
 subst h hr hn
 exact ⟨p1, k1, p2, k2, rfl, h1, h2, h3, h4, h5, h6.1, h6.2, h7, h8, hb⟩
theorem bs_set_ne {w : World} {p : Option Addr} {l : List UInt8} {g : Nat} {t : TypeId} (h : Bs w p l) (hT : w.heap[g]? = some (.cells #[.int .i64 0, .slice none 0 0, .slice none 0 0] t (0, 0))) (cs : Array Value) : Bs (w.setRow g cs) p l := by
 intro h0
 obtain ⟨b, off, rfl, hl, hc⟩ := h h0
 have hne : b ≠ g := by
  rintro rfl
  have h1 := hc 0 h0
  rw [cell_of_row w b _ _ t _ hT] at h1
  match off, h1 with
  | 0, h1 => simp at h1
  | 1, h1 => simp at h1
  | 2, h1 => simp at h1
  | n + 3, h1 => simp at h1
 refine ⟨b, off, rfl, by rw [setRow_size]; exact hl, fun j hj => ?_⟩
 rw [cell_setRow_other w g cs ⟨b, off + j, none⟩ hne]
 exact hc j hj
set_option maxHeartbeats 1000000 in
theorem parse_other (s : ByteArray) (h : three s.data.toList = none) (w : World) (hz : s.size ≤ 1048576) (hm : Mx w) :
  Calls Tryz.prog 83 #[.string s] w (ParseB none w) := by
 have hbz := build_z3
 have HM := Lib.hid hm
 have H := Lib.hid h
 have HC := Lib.hid (show (Tryz.prog.info? 98).map (·.size) = some (#[.int .i64 0, .slice none 0 0, .slice none 0 0] : Array Value).size from z3_info)
 have HO := Lib.hid (show (#[.int .i64 0, .slice none 0 0, .slice none 0 0] : Array Value).all (·.oneCell') = true by simp [Value.oneCell'])
 clear hm h
 go_enter Tryz.func83, Tryz.ntmps83
 go_wp2_with fail
 have hb0 := below1 w (.cells #[.int .i64 0, .slice none 0 0, .slice none 0 0] 98)
 refine (split_other s H.out _ hz (HM.out.keep hb0)).mono ?_
 rintro e w1 ⟨p, n, c, rfl, hn, hb1⟩
 have HT : Hid (w1.heap[w.heap.size]? = some (.cells #[.int .i64 0, .slice none 0 0, .slice none 0 0] 98 (0, 0))) := Lib.hid (by rw [hb1.block w.heap.size (by simp)]; exact heap_alloc_last w _)
 have hbw := hb0.trans (hb1.mono hb0.size)
 have hd : ((n : Int) != 3) = true := by simp; omega
 clear hb0 hb1
 go_wp2_with (with_reducible refine wpList_store_row rfl 98 (.tmp 2) (.tmp 16) rfl w.heap.size #[.int .i64 0, .slice none 0 0, .slice none 0 0] rfl rfl 98 _ HT.out HC.out rfl HO.out ?_)
 exact bodyPost_ret (results_cell_slot rfl _ _ w.heap.size 98 #[.int .i64 0, .slice none 0 0, .slice none 0 0] (0, 0) _ (.bool false) rfl (setRow_heap w1 w.heap.size _ _ _ _ HT.out) Tryz.underlying98 rfl HC.out rfl) rfl (parseB_no rfl (below_setRow hbw (Nat.le_refl _) _))
set_option maxHeartbeats 2000000 in
theorem parse_three (s : ByteArray) (a b c : List UInt8) (h : three s.data.toList = some (a, b, c)) (w : World) (hz : s.size ≤ 1048576) (hm : Mx w) (hg : NumL.Gd w) :
  Calls Tryz.prog 83 #[.string s] w (ParseB (recOf3 a b c) w) := by
 have hbz := build_z3
 have HM := Lib.hid hm
 have HG := Lib.hid hg
 have H := Lib.hid h
 have HC := Lib.hid (show (Tryz.prog.info? 98).map (·.size) = some (#[.int .i64 0, .slice none 0 0, .slice none 0 0] : Array Value).size from z3_info)
 have HO := Lib.hid (show (#[.int .i64 0, .slice none 0 0, .slice none 0 0] : Array Value).all (·.oneCell') = true by simp [Value.oneCell'])
 have hl := three_size h
 have hs : s.data.toList.length = s.size := by simp
 have hla : a.length ≤ 1048576 := by omega
 have hlb : b.length ≤ 1048576 := by omega
 have hlc : c.length ≤ 1048576 := by omega
 clear hm h hg hl hs
 go_enter Tryz.func83, Tryz.ntmps83
 go_wp2_with fail
 have hb0 := below1 w (.cells #[.int .i64 0, .slice none 0 0, .slice none 0 0] 98)
 refine (split_three s a b c H.out _ hz (HM.out.keep hb0)).mono ?_
 rintro e w1 ⟨g, rfl, c0, c1, c2, hgl, hb1⟩
 have HT1 : Hid (w1.heap[w.heap.size]? = some (.cells #[.int .i64 0, .slice none 0 0, .slice none 0 0] 98 (0, 0))) := Lib.hid (by rw [hb1.block w.heap.size (by simp)]; exact heap_alloc_last w _)
 have hw1 : w.heap.size < w1.heap.size := by have := hb1.size; simp at this; omega
 have HB1 := Lib.hid (hb0.trans (hb1.mono hb0.size))
 have K1 := Lib.hid c1
 have K2 := Lib.hid c2
 clear hb0 hb1 c1 c2
 go_wp2_with fail
 refine (parse_b a _ hla (HG.out.keep HB1.out)).mono ?_
 rintro e w2 ⟨rfl, hb2⟩
 have HT2 := Lib.hid ((hb2.block w.heap.size hw1).trans HT1.out)
 have HB2 := Lib.hid (HB1.out.trans (hb2.mono HB1.out.size))
 have c1 := (hb2.cell (p := ⟨g, 1, none⟩) hgl).trans K1.out
 have J2 := Lib.hid ((hb2.cell (p := ⟨g, 2, none⟩) hgl).trans K2.out)
 have hgl2 : g < w2.heap.size := Nat.lt_of_lt_of_le hgl hb2.size
 have hw2 : w.heap.size < w2.heap.size := Nat.lt_of_lt_of_le hw1 hb2.size
 clear hb2 HT1 HB1 K1 K2 c0
 go_wp2_with fail
 refine (unhex_b b _ hlb).mono ?_
 rintro e w3 ⟨p1, n1, k1, rfl, hf1, hb3⟩
 have HT3 := Lib.hid ((hb3.block w.heap.size hw2).trans HT2.out)
 have HB3 := Lib.hid (HB2.out.trans (hb3.mono HB2.out.size))
 have c2 := (hb3.cell (p := ⟨g, 2, none⟩) hgl2).trans J2.out
 have hw3 : w.heap.size < w3.heap.size := Nat.lt_of_lt_of_le hw2 hb3.size
 have F1 := Lib.hid hf1
 clear hb3 HT2 HB2 J2 c1 hf1
 go_wp2_with fail
 refine (unhex_b c _ hlc).mono ?_
 rintro e w4 ⟨p2, n2, k2, rfl, hf2, hb4⟩
 have HT4 := Lib.hid ((hb4.block w.heap.size hw3).trans HT3.out)
 have HB4 := Lib.hid (HB3.out.trans (hb4.mono HB3.out.size))
 have F2 := Lib.hid hf2
 have X4 := Lib.hid hb4
 clear hb4 HT3 HB3 c2 hf2
 rcases hA : parse a with _ | r
 · have HN := Lib.hid (recOf3_a (b := b) (c := c) hA)
   have hp : pB a = false := by unfold pB; rw [hA]; rfl
   clear hA
   go_wp2_with (first | (go_at_call 103; (first | (with_reducible refine (fit_no _ _ HFN.out).mono ?_) | (with_reducible refine (fit_yes _ _ HFY.out.1 HFY.out.2).mono ?_)); rintro e w' ⟨rfl, rfl⟩) | with_reducible refine wpList_store_row rfl 98 (.tmp 2) (.tmp 63) rfl w.heap.size #[.int .i64 0, .slice none 0 0, .slice none 0 0] rfl rfl 98 _ HT4.out HC.out rfl HO.out ?_)
   exact bodyPost_ret (results_cell_slot rfl _ _ w.heap.size 98 #[.int .i64 0, .slice none 0 0, .slice none 0 0] (0, 0) _ (.bool false) rfl (setRow_heap w4 w.heap.size _ _ _ _ HT4.out) Tryz.underlying98 rfl HC.out rfl) rfl (parseB_no HN.out (below_setRow HB4.out (Nat.le_refl _) _))
 have hp : pB a = true := by unfold pB; rw [hA]; rfl
 have HV := Lib.hid (show pV a = r by unfold pV; rw [hA]; rfl)
 have HA := Lib.hid hA
 clear hA
 rcases hB : unhexL b with _ | salt
 · have HN := Lib.hid (recOf3_b (a := a) (c := c) hB)
   have hp1 : (unhexL b).isSome = false := by rw [hB]; rfl
   clear hB
   go_wp2_with (first | (go_at_call 103; (first | (with_reducible refine (fit_no _ _ HFN.out).mono ?_) | (with_reducible refine (fit_yes _ _ HFY.out.1 HFY.out.2).mono ?_)); rintro e w' ⟨rfl, rfl⟩) | with_reducible refine wpList_store_row rfl 98 (.tmp 2) (.tmp 63) rfl w.heap.size #[.int .i64 0, .slice none 0 0, .slice none 0 0] rfl rfl 98 _ HT4.out HC.out rfl HO.out ?_)
   exact bodyPost_ret (results_cell_slot rfl _ _ w.heap.size 98 #[.int .i64 0, .slice none 0 0, .slice none 0 0] (0, 0) _ (.bool false) rfl (setRow_heap w4 w.heap.size _ _ _ _ HT4.out) Tryz.underlying98 rfl HC.out rfl) rfl (parseB_no HN.out (below_setRow HB4.out (Nat.le_refl _) _))
 have hp1 : (unhexL b).isSome = true := by rw [hB]; rfl
 obtain ⟨hn1, hbs1, hk1, hk1m, hnil1⟩ := F1.out salt hB
 have HBb := Lib.hid hB
 clear hB
 rcases hD : unhexL c with _ | d
 · have HN := Lib.hid (recOf3_c (a := a) (b := b) hD)
   have hp2 : (unhexL c).isSome = false := by rw [hD]; rfl
   have HN1 := Lib.hid hn1
   clear hD hn1
   go_wp2_with (first | (go_at_call 103; (first | (with_reducible refine (fit_no _ _ HFN.out).mono ?_) | (with_reducible refine (fit_yes _ _ HFY.out.1 HFY.out.2).mono ?_)); rintro e w' ⟨rfl, rfl⟩) | with_reducible refine wpList_store_row rfl 98 (.tmp 2) (.tmp 63) rfl w.heap.size #[.int .i64 0, .slice none 0 0, .slice none 0 0] rfl rfl 98 _ HT4.out HC.out rfl HO.out ?_)
   exact bodyPost_ret (results_cell_slot rfl _ _ w.heap.size 98 #[.int .i64 0, .slice none 0 0, .slice none 0 0] (0, 0) _ (.bool false) rfl (setRow_heap w4 w.heap.size _ _ _ _ HT4.out) Tryz.underlying98 rfl HC.out rfl) rfl (parseB_no HN.out (below_setRow HB4.out (Nat.le_refl _) _))
 have hp2 : (unhexL c).isSome = true := by rw [hD]; rfl
 obtain ⟨hn2, hbs2, hk2, hk2m, hnil2⟩ := F2.out d hD
 have HDd := Lib.hid hD
 have HN1 := Lib.hid hn1
 have HN2 := Lib.hid hn2
 clear hD hn1 hn2 F1 F2
 have HBS1 := Lib.hid (hbs1.keep X4.out)
 have HBS2 := Lib.hid hbs2
 clear hbs1 hbs2
 by_cases hfit : 1 ≤ pV a ∧ pV a ≤ 64
 · have HFY := Lib.hid hfit
   have hr1 : 1 ≤ r ∧ r ≤ 64 := by rw [← HV.out]; exact hfit
   clear hfit
   by_cases h32 : n1 ≤ 32
   · have d1 : decide (32 < (n1 : Int)) = false := decide_eq_false (by omega)
     by_cases hd32 : n2 = 32
     · subst hd32
       have HN := Lib.hid (recOf3_some HA.out HBb.out HDd.out ⟨hr1.1, hr1.2, by rw [HN1.out]; exact h32, HN2.out⟩)
       have HCs := Lib.hid (show (Tryz.prog.info? 98).map (·.size) = some (#[Value.int .i64 (pV a), .slice p1 n1 k1, .slice p2 32 k2] : Array Value).size from z3_info)
       have HOs := Lib.hid (show (#[Value.int .i64 (pV a), .slice p1 n1 k1, .slice p2 32 k2] : Array Value).all (·.oneCell') = true by simp [Value.oneCell'])
       go_wp2_with (first | (go_at_call 103; with_reducible refine (fit_yes _ _ HFY.out.1 HFY.out.2).mono ?_; rintro e w' ⟨rfl, rfl⟩) | with_reducible refine wpList_store_row rfl 98 (.tmp 2) (.tmp 67) rfl w.heap.size #[.int .i64 (pV a), .slice p1 n1 k1, .slice p2 32 k2] rfl rfl 98 _ HT4.out HCs.out rfl HOs.out ?_)
       exact bodyPost_ret (results_cell_slot rfl _ _ w.heap.size 98 #[.int .i64 (pV a), .slice p1 n1 k1, .slice p2 32 k2] (0, 0) _ (.bool true) rfl (setRow_heap w4 w.heap.size _ _ _ _ HT4.out) Tryz.underlying98 rfl HCs.out rfl) rfl (parseB_yes HN.out HV.out HN1.out (bs_set_ne HBS1.out HT4.out _) hk1 hk1m hnil1 (bs_set_ne HBS2.out HT4.out _) hr1 h32 HN2.out (below_setRow HB4.out (Nat.le_refl _) _))
     · have d2 : ((n2 : Int) != 32) = true := by simp; omega
       have HN := Lib.hid (recOf3_out HA.out HBb.out HDd.out (by rw [HN2.out]; omega))
       go_wp2_with (first | (go_at_call 103; (first | (with_reducible refine (fit_no _ _ HFN.out).mono ?_) | (with_reducible refine (fit_yes _ _ HFY.out.1 HFY.out.2).mono ?_)); rintro e w' ⟨rfl, rfl⟩) | with_reducible refine wpList_store_row rfl 98 (.tmp 2) (.tmp 63) rfl w.heap.size #[.int .i64 0, .slice none 0 0, .slice none 0 0] rfl rfl 98 _ HT4.out HC.out rfl HO.out ?_)
       exact bodyPost_ret (results_cell_slot rfl _ _ w.heap.size 98 #[.int .i64 0, .slice none 0 0, .slice none 0 0] (0, 0) _ (.bool false) rfl (setRow_heap w4 w.heap.size _ _ _ _ HT4.out) Tryz.underlying98 rfl HC.out rfl) rfl (parseB_no HN.out (below_setRow HB4.out (Nat.le_refl _) _))
   · have d1 : decide (32 < (n1 : Int)) = true := decide_eq_true (by omega)
     have HN := Lib.hid (recOf3_out HA.out HBb.out HDd.out (by rw [HN1.out]; omega))
     go_wp2_with (first | (go_at_call 103; (first | (with_reducible refine (fit_no _ _ HFN.out).mono ?_) | (with_reducible refine (fit_yes _ _ HFY.out.1 HFY.out.2).mono ?_)); rintro e w' ⟨rfl, rfl⟩) | with_reducible refine wpList_store_row rfl 98 (.tmp 2) (.tmp 63) rfl w.heap.size #[.int .i64 0, .slice none 0 0, .slice none 0 0] rfl rfl 98 _ HT4.out HC.out rfl HO.out ?_)
     exact bodyPost_ret (results_cell_slot rfl _ _ w.heap.size 98 #[.int .i64 0, .slice none 0 0, .slice none 0 0] (0, 0) _ (.bool false) rfl (setRow_heap w4 w.heap.size _ _ _ _ HT4.out) Tryz.underlying98 rfl HC.out rfl) rfl (parseB_no HN.out (below_setRow HB4.out (Nat.le_refl _) _))
 · have HFN := Lib.hid hfit
   have HN := Lib.hid (recOf3_out HA.out HBb.out HDd.out (by have := HV.out; omega))
   clear hfit
   go_wp2_with (first | (go_at_call 103; (first | (with_reducible refine (fit_no _ _ HFN.out).mono ?_) | (with_reducible refine (fit_yes _ _ HFY.out.1 HFY.out.2).mono ?_)); rintro e w' ⟨rfl, rfl⟩) | with_reducible refine wpList_store_row rfl 98 (.tmp 2) (.tmp 63) rfl w.heap.size #[.int .i64 0, .slice none 0 0, .slice none 0 0] rfl rfl 98 _ HT4.out HC.out rfl HO.out ?_)
   exact bodyPost_ret (results_cell_slot rfl _ _ w.heap.size 98 #[.int .i64 0, .slice none 0 0, .slice none 0 0] (0, 0) _ (.bool false) rfl (setRow_heap w4 w.heap.size _ _ _ _ HT4.out) Tryz.underlying98 rfl HC.out rfl) rfl (parseB_no HN.out (below_setRow HB4.out (Nat.le_refl _) _))
end Go.Proofs.YtpoinibckmbfcaaGreatDoor.MacT
namespace Go.Proofs.YtpoinibckmbfcaaGreatDoor.MacT
open Go.RowKit Kit ShaMath ShaT MacM
set_option linter.unusedVariables false
set_option maxRecDepth 100000
theorem build_32 (w : World) : (Instr.build 89 #[]).run Tryz.prog w = .ok (.agg (row .u8 32 fun _ => 0)) w := run_build w 89 _ _ (by kernel_rfl)
theorem size_u8' (w : World) : (sizeOf 5).run Tryz.prog w = .ok 1 w := by kernel_rfl
theorem agg_u8 (w : World) : (isAgg 5).run Tryz.prog w = .ok false w := by kernel_rfl
structure Der0 (w : World) (K : Nat → Nat) (g7 : Nat) (wr : World) : Prop where
 b : Below w.heap.size w wr
 z : Arr wr w.heap.size .u8 32 89 (fun _ => 0)
 k : Arr wr g7 .u8 64 140 K
 lt : w.heap.size < g7
theorem Der0.keep {w : World} {K : Nat → Nat} {g7 : Nat} {wr w' : World} (h : Der0 w K g7 wr) (hb : Below wr.heap.size wr w') : Der0 w K g7 w' :=
 ⟨h.b.trans (hb.mono h.b.size), h.z.keep hb h.z.lt, h.k.keep hb h.k.lt, h.lt⟩
theorem Der0.drew {w : World} {K : Nat → Nat} {g7 : Nat} {wr : World} (h : Der0 w K g7 wr) : Der0 w K g7 wr.drew := ⟨h.b.drew, h.z, h.k, h.lt⟩
theorem Der0.al {w : World} {K : Nat → Nat} {g7 : Nat} {wr : World} (h : Der0 w K g7 wr) (o : Obj) : Der0 w K g7 (wr.alloc o) := h.keep (below1 _ _)
structure Der1 (w : World) (K : Nat → Nat) (g7 g8 : Nat) (U : Nat → Nat) (wr : World) : Prop where
 o : Der0 w K g7 wr
 u : Arr wr g8 .u8 32 89 U
 lt : g7 < g8
theorem Der1.keep {w : World} {K U : Nat → Nat} {g7 g8 : Nat} {wr w' : World} (h : Der1 w K g7 g8 U wr) (hb : Below wr.heap.size wr w') : Der1 w K g7 g8 U w' :=
 ⟨h.o.keep hb, h.u.keep hb h.u.lt, h.lt⟩
theorem Der1.drew {w : World} {K U : Nat → Nat} {g7 g8 : Nat} {wr : World} (h : Der1 w K g7 g8 U wr) : Der1 w K g7 g8 U wr.drew := ⟨h.o.drew, h.u, h.lt⟩
theorem Der1.al {w : World} {K U : Nat → Nat} {g7 g8 : Nat} {wr : World} (h : Der1 w K g7 g8 U wr) (o : Obj) : Der1 w K g7 g8 U (wr.alloc o) := h.keep (below1 _ _)
theorem Der1.put {w : World} {K U : Nat → Nat} {g7 g8 : Nat} {wr : World} (h : Der1 w K g7 g8 U wr) (V : Nat → Nat) : Der1 w K g7 g8 V (wr.setRow g8 (row .u8 32 V)) :=
 ⟨⟨below_setRow h.o.b (by have := h.lt; have := h.o.lt; omega) _, h.o.z.setRow_ne _ (by have := h.lt; have := h.o.lt; omega), h.o.k.setRow_ne _ (by have := h.lt; omega), h.o.lt⟩, h.u.setRow _, h.lt⟩
structure Der2 (w : World) (K : Nat → Nat) (g7 g8 g9 : Nat) (U M : Nat → Nat) (wr : World) : Prop where
 o : Der1 w K g7 g8 U wr
 m : Arr wr g9 .u8 32 89 M
 lt : g8 < g9
theorem Der2.keep {w : World} {K U M : Nat → Nat} {g7 g8 g9 : Nat} {wr w' : World} (h : Der2 w K g7 g8 g9 U M wr) (hb : Below wr.heap.size wr w') : Der2 w K g7 g8 g9 U M w' :=
 ⟨h.o.keep hb, h.m.keep hb h.m.lt, h.lt⟩
theorem Der2.drew {w : World} {K U M : Nat → Nat} {g7 g8 g9 : Nat} {wr : World} (h : Der2 w K g7 g8 g9 U M wr) : Der2 w K g7 g8 g9 U M wr.drew := ⟨h.o.drew, h.m, h.lt⟩
theorem Der2.put {w : World} {K U M : Nat → Nat} {g7 g8 g9 : Nat} {wr : World} (h : Der2 w K g7 g8 g9 U M wr) (V : Nat → Nat) : Der2 w K g7 g8 g9 V M (wr.setRow g8 (row .u8 32 V)) :=
 ⟨h.o.put V, h.m.setRow_ne _ (by have := h.lt; omega), h.lt⟩
theorem Der2.set {w : World} {K U M : Nat → Nat} {g7 g8 g9 : Nat} {wr : World} (h : Der2 w K g7 g8 g9 U M wr) (j v : Nat) : Der2 w K g7 g8 g9 U (upd M j v) (wr.setCell ⟨g9, j, none⟩ (.int .u8 (v : Int))) := by
 have h1 := h.lt
 have h2 := h.o.lt
 have h3 := h.o.o.lt
 exact ⟨⟨⟨h.o.o.b.setCell (by simp; omega) _, h.o.o.z.other _ _ (by simp; omega), h.o.o.k.other _ _ (by simp; omega), h3⟩, h.o.u.other _ _ (by simp; omega), h2⟩, h.m.set _ _, h1⟩
theorem Der2.congr {w : World} {K U M M' : Nat → Nat} {g7 g8 g9 : Nat} {wr : World} (h : Der2 w K g7 g8 g9 U M wr) (e : ∀ j, j < 32 → M j = M' j) : Der2 w K g7 g8 g9 U M' wr := ⟨h.o, h.m.congr e, h.lt⟩
def part (M U : Nat → Nat) (j : Nat) : Nat → Nat := fun q => if q < j then M q ^^^ U q else M q
theorem part_next (M U : Nat → Nat) (j q : Nat) : upd (part M U j) j (M j ^^^ U j) q = part M U (j + 1) q := by
 unfold upd part
 by_cases e : q = j
 · subst e; rw [if_pos rfl, if_pos (by omega)]
 · rw [if_neg e]
   by_cases h : q < j
   · rw [if_pos h, if_pos (by omega)]
   · rw [if_neg h, if_neg (by omega)]
theorem part_at (M U : Nat → Nat) (j : Nat) : part M U j j = M j := if_neg (Nat.lt_irrefl j)
theorem part_all (M U : Nat → Nat) (q : Nat) (h : q < 32) : part M U 32 q = M q ^^^ U q := if_pos h
theorem der_new {w : World} {K : Nat → Nat} {g7 : Nat} {W : World} (h : Der0 w K g7 W) : Arr (W.alloc (.cells (row .u8 32 fun _ => 0) 89)) W.heap.size .u8 32 89 (fun _ => 0) := Arr.new
theorem der1_mk {w : World} {K U0 U : Nat → Nat} {g7 g8 : Nat} {W : World} (h : Der0 w K g7 W) (ha : Arr W g8 .u8 32 89 U0) (hlt : g7 < g8) : Der1 w K g7 g8 U (W.setRow g8 (row .u8 32 U)) :=
 ⟨⟨below_setRow h.b (by have := h.lt; omega) _, h.z.setRow_ne _ (by have := h.lt; omega), h.k.setRow_ne _ (by omega), h.lt⟩, ha.setRow _, hlt⟩
theorem der2_mk {w : World} {K U M : Nat → Nat} {g7 g8 : Nat} {W : World} (h : Der1 w K g7 g8 U W) : Der2 w K g7 g8 W.heap.size U M ((W.alloc (.cells (row .u8 32 fun _ => 0) 89)).setRow W.heap.size (row .u8 32 M)) :=
 ⟨⟨⟨below_setRow (h.o.b.alloc h.o.b.size _) h.o.b.size _, (h.o.z.al _).setRow_ne _ (by have := h.o.z.lt; omega), (h.o.k.al _).setRow_ne _ (by have := h.o.k.lt; omega), h.o.lt⟩, (h.u.al _).setRow_ne _ (by have := h.u.lt; omega), h.lt⟩, Arr.new.setRow _, h.u.lt⟩
end Go.Proofs.YtpoinibckmbfcaaGreatDoor.MacT
namespace Go.Proofs.YtpoinibckmbfcaaGreatDoor.MacT
open Go.RowKit Kit ShaMath ShaT MacM HexMath HexW NumL NumMath
open Go.Sort (grow)
set_option linter.unusedVariables false
set_option maxRecDepth 100000
theorem bytes_bs (w : World) (s : ByteArray) : Bs (Lib.bytesWorld w 5 s) (some ⟨w.heap.size, 0, none⟩) s.data.toList := by
 intro h0
 refine ⟨_, 0, rfl, by rw [Lib.bytesWorld_size]; omega, fun j hj => ?_⟩
 rw [Nat.zero_add]
 exact (bytesWorld_row w 5 s).at_ j hj
theorem rec_bytes {T H1 H2 : ByteArray} {r : Int} {salt d : List UInt8} (ht : T = ⟨(Lib.itoa r).toArray⟩) (h1 : H1 = ⟨(hexL salt).toArray⟩) (h2 : H2 = ⟨(hexL d).toArray⟩) : T ++ ⟨#[58]⟩ ++ H1 ++ ⟨#[58]⟩ ++ H2 = ⟨(recL r salt d).toArray⟩ := by
 subst ht h1 h2
 apply ByteArray.ext
 apply Array.toList_inj.1
 unfold recL
 simp
end Go.Proofs.YtpoinibckmbfcaaGreatDoor.MacT
namespace Go.Proofs.YtpoinibckmbfcaaGreatDoor.MacT
open Go.RowKit Kit ShaMath ShaT MacM HexMath HexW NumL NumMath
open Go.Sort (grow)
set_option linter.unusedVariables false
set_option maxRecDepth 100000
def Parts3 (ok : Bool) (w : World) (e : Ending) (w' : World) : Prop :=
 ∃ r p1 n1 c1 p2 n2 c2, e = .returned (.tuple #[.agg #[.int .i64 r, .slice p1 n1 c1, .slice p2 n2 c2], .bool ok]) ∧ Below w.heap.size w w'
theorem parts_size (r : Int) (p1 p2 : Option Addr) (n1 c1 n2 c2 : Nat) : (Tryz.prog.info? 98).map (·.size) = some (#[Value.int .i64 r, .slice p1 n1 c1, .slice p2 n2 c2] : Array Value).size := z3_info
theorem parts_one (r : Int) (p1 p2 : Option Addr) (n1 c1 n2 c2 : Nat) : (#[Value.int .i64 r, .slice p1 n1 c1, .slice p2 n2 c2] : Array Value).all (·.oneCell') = true := by simp [Value.oneCell']
end Go.Proofs.YtpoinibckmbfcaaGreatDoor.MacT
namespace Go.Proofs.YtpoinibckmbfcaaGreatDoor.MacM
open Go Kit ShaMath ShaT HexMath NumMath
set_option linter.unusedVariables false
end Go.Proofs.YtpoinibckmbfcaaGreatDoor.MacM
namespace Go.Proofs.YtpoinibckmbfcaaGreatDoor.MacT
open Go.RowKit Kit ShaMath ShaT MacM HexMath HexW NumL NumMath
set_option linter.unusedVariables false
set_option maxRecDepth 100000
theorem itoa_1' : (Lib.itoa 1).length = 1 := by rw [itoa_1]; rfl
end Go.Proofs.YtpoinibckmbfcaaGreatDoor.MacT
namespace Go.Proofs.YtpoinibckmbfcaaGreatDoor.MacT
open Go.RowKit Kit ShaMath ShaT MacM
open Go.Sort (grow)
set_option linter.unusedVariables false
set_option maxRecDepth 100000
def Own (base : Nat) (w : World) (v : Value) (l : List UInt8) : Prop := w.ownsRow base 5 1 v l.length (bv l)
theorem Own.new (w : World) : Own w.heap.size (w.alloc (.cells #[] 5)) (.slice (some ⟨w.heap.size, 0, none⟩) 0 0) [] :=
 World.ownsRow_lit w #[] 0 (Nat.le_refl _) (by simp [maxLen]) rfl
theorem Own.full {base : Nat} {w : World} {v : Value} {l : List UInt8} (h : Own base w v l) : ∃ p c, v = .slice p l.length c ∧ Bs w p l ∧ l.length ≤ c ∧ c ≤ 9223372036854775807 ∧ (p = none → c = 0) := own_full h
theorem Own.al {base : Nat} {w : World} {v : Value} {l : List UInt8} (h : Own base w v l) (o : Obj) : Own base (w.alloc o) v l := World.ownsRow.alloc h o
theorem Own.drewN {base : Nat} {w : World} {v : Value} {l : List UInt8} (h : Own base w v l) (q : Nat) : Own base (w.drewN q) v l := h
theorem wp_append_bs {w0 w : World} {o : Oper} {a : Act} {K : Act → World → Prop} {Q : Exit → Act → World → Prop} (s x : Operand)
    (ho : o.op = .call { callee := .builtin .append, args := #[s, x], argTypes := #[30, 30] })
    (v : Value) (xs : List UInt8) (hs : a.eval s = v) (hown : Own w0.heap.size w v xs) (hb : Below w0.heap.size w0 w)
    (q : Option Addr) (l : List UInt8) (m c : Nat) (hx : a.eval x = .slice q m c) (hm : l.length = m) (hl : Bs w q l) (hnil : q = none → c = 0) (hsz : xs.length + m ≤ 70368744177664) (z : List UInt8) (hzz : z = xs ++ l)
    (h : ∀ v' w', Own w0.heap.size w' v' z → Below w0.heap.size w0 w' → K (a.put o.dst v') w') : o.wp Tryz.prog a w K Q := by
  subst hzz
  obtain ⟨i0, hi0, hz0, hz1, hzb⟩ := info_parts u8_parts
  have hfin : ∀ v' w', w'.ownsRow w0.heap.size 5 1 v' (xs.length + m) (bv xs ++ bv l) → w.grownBy w' v.ownBlock → K (a.put o.dst v') w' := by
   intro v' w' h1 h2
   refine h v' w' ?_ (hb.grown h2 hb.size (own_base hown))
   unfold Own
   rw [List.length_append, hm, bv_app]
   exact h1
  rcases q with _ | ad
  · obtain rfl := hnil rfl
    have h0 : l.length = 0 := by
     rcases Nat.eq_zero_or_pos l.length with h' | h'
     · exact h'
     · obtain ⟨b, off, e, -⟩ := hl h'
       cases e
    obtain rfl : l = [] := List.eq_nil_of_length_eq_zero h0
    obtain rfl : 0 = m := hm
    have hrun := run_append_owned_none (P := Tryz.prog) (w := w) w0.heap.size 30 o.type 5 i0 1 Tryz.underlying30 hi0 v xs.length (bv xs) hown
    have hf := hfin v w (by have h2 : w.ownsRow w0.heap.size 5 1 v xs.length (bv xs) := hown; simpa [bv] using h2) (World.grownBy.refl w _)
    unfold Oper.wp
    simp [execOp, ho, resolve, invoke, builtin, hs, hx, hrun, Result.andThen]
    exact hf
  · refine wp_append_own w s x 30 ho w0.heap.size 5 i0 (.int .u8 0) 1 1 Tryz.underlying30 hi0 hz0 hz1 hzb rfl (by decide) v xs.length (bv xs) hs hown ad m c (bv l) hx (by rw [bv_length, Nat.mul_one]; exact hm) (fun j u hu => ?_) (bv_one _) (by unfold maxLen; omega) (by omega) hb.size ?_
    · obtain ⟨ad', e, -, hc⟩ := copy_src hl (by
       rcases Nat.eq_zero_or_pos (bv l).length with h' | h'
       · rw [List.eq_nil_of_length_eq_zero h'] at hu
         simp at hu
       · exact h')
      injection e with e
      subst e
      exact hc j u hu
    · intro v' w' h1 h2 _
      exact hfin v' w' h1 h2
theorem wpList_append_bs {w0 w : World} {ops : Array Oper} {rest : List Oper} {o : Oper} {a : Act} {Q : Exit → Act → World → Prop} (hgd : o.guard = none) (s x : Operand)
    (ho : o.op = .call { callee := .builtin .append, args := #[s, x], argTypes := #[30, 30] })
    (v : Value) (xs : List UInt8) (hs : a.eval s = v) (hown : Own w0.heap.size w v xs) (hb : Below w0.heap.size w0 w)
    (q : Option Addr) (l : List UInt8) (m c : Nat) (hx : a.eval x = .slice q m c) (hm : l.length = m) (hl : Bs w q l) (hnil : q = none → c = 0) (hsz : xs.length + m ≤ 70368744177664) (z : List UInt8) (hzz : z = xs ++ l)
    (h : ∀ v' w', Own w0.heap.size w' v' z → Below w0.heap.size w0 w' → wpList Tryz.prog ops Q rest (a.put o.dst v') w') : wpList Tryz.prog ops Q (o :: rest) a w :=
  wpList_plain hgd fun K hK => wp_append_bs s x ho v xs hs hown hb q l m c hx hm hl hnil hsz z hzz fun v' w' h1 h2 => hK _ _ (h v' w' h1 h2)
theorem lit1_bs (w : World) (c : UInt8) (v : Int) (h : v = (c.toNat : Int)) : Bs (w.alloc (.cells #[.int .u8 v] 5)) (some ⟨w.heap.size, 0, none⟩) [c] := by
 subst h
 intro _
 refine ⟨_, 0, rfl, by simp, fun j hj => ?_⟩
 match j, hj with
 | 0, _ => simp [World.cell?_alloc_mark]
 | j + 1, hj => simp at hj
end Go.Proofs.YtpoinibckmbfcaaGreatDoor.MacT
namespace Go.Proofs.YtpoinibckmbfcaaGreatDoor.MacT
open Go.RowKit Kit ShaMath ShaT MacM HexMath NumMath
set_option linter.unusedVariables false
set_option maxRecDepth 100000
theorem idx_at (R : ByteArray) (i : Nat) (c : UInt8) (h : R.data.toList[i]? = some c) (k : Int) (hk : k = (i : Int)) (w : World) : (Instr.index 9 (.string R) (.int .i64 k)).run Tryz.prog w = .ok (.int .u8 (c.toNat : Int)) w := by
 subst hk
 have hl : R.data.toList.length = R.size := by simp
 have hi : i < R.size := by
  rcases Nat.lt_or_ge i R.size with h' | h'
  · exact h'
  · rw [List.getElem?_eq_none (by omega)] at h; cases h
 rw [run_index_string _ _ _ _ _ Tryz.underlying9, dif_pos ⟨by omega, by omega⟩]
 have e : R[i] = c := by
  rw [List.getElem?_eq_getElem (by omega)] at h
  injection h
 simp only [Int.toNat_natCast, e]
theorem unhex_blank (d : List UInt8) : unhexL (hexL d ++ [32]) = none := by
 apply unhex_odd
 rw [List.length_append, hexL_length]
 simp
theorem rec_blank {r : Int} (salt d : List UInt8) : recOf (recL r salt d ++ [32]) = none := by
 have e : recL r salt d ++ [32] = Lib.itoa r ++ 58 :: (hexL salt ++ 58 :: (hexL d ++ [32])) := by unfold recL; simp
 rw [e]
 exact last_none (unhex_blank d)
end Go.Proofs.YtpoinibckmbfcaaGreatDoor.MacT
namespace Go.Proofs.YtpoinibckmbfcaaGreatDoor.macRounds
open Go.RowKit Kit ShaMath ShaT MacM MacT
open Go.Sort (grow)
set_option linter.unusedVariables false
set_option maxRecDepth 100000
theorem lit4_bs (w : World) : Bs (w.alloc (.cells #[.int .u8 0, .int .u8 0, .int .u8 0, .int .u8 1] 5)) (some ⟨w.heap.size, 0, none⟩) [0, 0, 0, 1] := by
 intro _
 refine ⟨_, 0, rfl, by simp, fun j hj => ?_⟩
 match j, hj with
 | 0, _ => simp [World.cell?_alloc_mark]
 | 1, _ => simp [World.cell?_alloc_mark]
 | 2, _ => simp [World.cell?_alloc_mark]
 | 3, _ => simp [World.cell?_alloc_mark]
 | j + 4, hj => exact absurd (show j + 4 < 4 from hj) (by omega)
structure RRel (w : World) (g8 g9 g10 : Nat) (U V f : Nat → Nat) (wr : World) : Prop where
 b : Below w.heap.size w wr
 u : Arr wr g8 .u8 32 89 U
 v : Arr wr g9 .u8 32 89 V
 t : Arr wr g10 .u8 32 89 f
 h8 : w.heap.size ≤ g8
 h9 : g8 < g9
 h10 : g9 < g10
theorem RRel.drewN {w : World} {g8 g9 g10 : Nat} {U V f : Nat → Nat} {wr : World} (h : RRel w g8 g9 g10 U V f wr) (q : Nat) : RRel w g8 g9 g10 U V f (wr.drewN q) :=
 ⟨h.b.trans ⟨rfl, rfl, rfl, Nat.le_refl _, fun _ _ => rfl⟩, h.u.drewN q, h.v.drewN q, h.t.drewN q, h.h8, h.h9, h.h10⟩
theorem RRel.set {w : World} {g8 g9 g10 : Nat} {U V f : Nat → Nat} {wr : World} (h : RRel w g8 g9 g10 U V f wr) (j v : Nat) : RRel w g8 g9 g10 U V (upd f j v) (wr.setCell ⟨g10, j, none⟩ (.int .u8 (v : Int))) := by
 have h1 := h.h8
 have h2 := h.h9
 have h3 := h.h10
 exact ⟨h.b.setCell (by simp; omega) _, h.u.other _ _ (by simp; omega), h.v.other _ _ (by simp; omega), h.t.set _ _, h1, h2, h3⟩
theorem RRel.congr {w : World} {g8 g9 g10 : Nat} {U V f f' : Nat → Nat} {wr : World} (h : RRel w g8 g9 g10 U V f wr) (e : ∀ j, j < 32 → f j = f' j) : RRel w g8 g9 g10 U V f' wr := ⟨h.b, h.u, h.v, h.t.congr e, h.h8, h.h9, h.h10⟩
end Go.Proofs.YtpoinibckmbfcaaGreatDoor.macRounds
