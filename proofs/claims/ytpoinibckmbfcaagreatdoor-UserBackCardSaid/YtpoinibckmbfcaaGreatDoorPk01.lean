/-
  Packed by program.
-/
import Derived.WalkKit
import Derived.WalkLawsBesides
import Derived.WalkSmall
import Derived.Lib.Hide
import Derived.Lib.ConvBytes
import Derived.Lib.SlBytesRow
import Derived.Laws.IdiomStrings
import Derived.Test.YtpoinibckmbfcaaGreatDoorChecked
import Derived.OwnWalk
import Derived.Laws.OwnMore
import Derived.Laws.Slices
import Derived.Laws.Rows
import Derived.Laws.Tables
import Derived.Deep.WholeRow
import Derived.Laws.AppendOwnNone
import Derived.Laws.CopyOwn
import Derived.BigQuiet
import Derived.Deep.QuietTactic
import Derived.Laws.BitsAllLaws
namespace Go.Proofs
end Go.Proofs
namespace Go.Proofs.YtpoinibckmbfcaaGreatDoor.BytesIn
end Go.Proofs.YtpoinibckmbfcaaGreatDoor.BytesIn
namespace Go.Proofs.YtpoinibckmbfcaaGreatDoor.HexMath
end Go.Proofs.YtpoinibckmbfcaaGreatDoor.HexMath
namespace Go.Proofs.YtpoinibckmbfcaaGreatDoor.HexW
end Go.Proofs.YtpoinibckmbfcaaGreatDoor.HexW
namespace Go.Proofs.YtpoinibckmbfcaaGreatDoor.Kit
end Go.Proofs.YtpoinibckmbfcaaGreatDoor.Kit
namespace Go.Proofs.YtpoinibckmbfcaaGreatDoor.Low
end Go.Proofs.YtpoinibckmbfcaaGreatDoor.Low
namespace Go.Proofs.YtpoinibckmbfcaaGreatDoor.LowN
end Go.Proofs.YtpoinibckmbfcaaGreatDoor.LowN
namespace Go.Proofs.YtpoinibckmbfcaaGreatDoor.LowR
end Go.Proofs.YtpoinibckmbfcaaGreatDoor.LowR
namespace Go.Proofs.YtpoinibckmbfcaaGreatDoor.MacM
end Go.Proofs.YtpoinibckmbfcaaGreatDoor.MacM
namespace Go.Proofs.YtpoinibckmbfcaaGreatDoor.MacT
end Go.Proofs.YtpoinibckmbfcaaGreatDoor.MacT
namespace Go.Proofs.YtpoinibckmbfcaaGreatDoor.MapT
end Go.Proofs.YtpoinibckmbfcaaGreatDoor.MapT
namespace Go.Proofs.YtpoinibckmbfcaaGreatDoor.NumL
end Go.Proofs.YtpoinibckmbfcaaGreatDoor.NumL
namespace Go.Proofs.YtpoinibckmbfcaaGreatDoor.NumMath
end Go.Proofs.YtpoinibckmbfcaaGreatDoor.NumMath
namespace Go.Proofs.YtpoinibckmbfcaaGreatDoor.NumW
end Go.Proofs.YtpoinibckmbfcaaGreatDoor.NumW
namespace Go.Proofs.YtpoinibckmbfcaaGreatDoor.PopT
end Go.Proofs.YtpoinibckmbfcaaGreatDoor.PopT
namespace Go.Proofs.YtpoinibckmbfcaaGreatDoor.Ref01
end Go.Proofs.YtpoinibckmbfcaaGreatDoor.Ref01
namespace Go.Proofs.YtpoinibckmbfcaaGreatDoor.RefM
end Go.Proofs.YtpoinibckmbfcaaGreatDoor.RefM
namespace Go.Proofs.YtpoinibckmbfcaaGreatDoor.RefRule
end Go.Proofs.YtpoinibckmbfcaaGreatDoor.RefRule
namespace Go.Proofs.YtpoinibckmbfcaaGreatDoor.RefT
end Go.Proofs.YtpoinibckmbfcaaGreatDoor.RefT
namespace Go.Proofs.YtpoinibckmbfcaaGreatDoor.RefTab
end Go.Proofs.YtpoinibckmbfcaaGreatDoor.RefTab
namespace Go.Proofs.YtpoinibckmbfcaaGreatDoor.RefUser
end Go.Proofs.YtpoinibckmbfcaaGreatDoor.RefUser
namespace Go.Proofs.YtpoinibckmbfcaaGreatDoor.ReplyMath
end Go.Proofs.YtpoinibckmbfcaaGreatDoor.ReplyMath
namespace Go.Proofs.YtpoinibckmbfcaaGreatDoor.ReplyT
end Go.Proofs.YtpoinibckmbfcaaGreatDoor.ReplyT
namespace Go.Proofs.YtpoinibckmbfcaaGreatDoor.RowG
end Go.Proofs.YtpoinibckmbfcaaGreatDoor.RowG
namespace Go.Proofs.YtpoinibckmbfcaaGreatDoor.RulT
end Go.Proofs.YtpoinibckmbfcaaGreatDoor.RulT
namespace Go.Proofs.YtpoinibckmbfcaaGreatDoor.RuleK
end Go.Proofs.YtpoinibckmbfcaaGreatDoor.RuleK
namespace Go.Proofs.YtpoinibckmbfcaaGreatDoor.RuleM
end Go.Proofs.YtpoinibckmbfcaaGreatDoor.RuleM
namespace Go.Proofs.YtpoinibckmbfcaaGreatDoor.RuleT
end Go.Proofs.YtpoinibckmbfcaaGreatDoor.RuleT
namespace Go.Proofs.YtpoinibckmbfcaaGreatDoor.ShaMath
end Go.Proofs.YtpoinibckmbfcaaGreatDoor.ShaMath
namespace Go.Proofs.YtpoinibckmbfcaaGreatDoor.ShaT
end Go.Proofs.YtpoinibckmbfcaaGreatDoor.ShaT
namespace Go.Proofs.YtpoinibckmbfcaaGreatDoor.StrS
end Go.Proofs.YtpoinibckmbfcaaGreatDoor.StrS
namespace Go.Proofs.YtpoinibckmbfcaaGreatDoor.StrT
end Go.Proofs.YtpoinibckmbfcaaGreatDoor.StrT
namespace Go.Proofs.YtpoinibckmbfcaaGreatDoor.TableM
end Go.Proofs.YtpoinibckmbfcaaGreatDoor.TableM
namespace Go.Proofs.YtpoinibckmbfcaaGreatDoor.TableMath
end Go.Proofs.YtpoinibckmbfcaaGreatDoor.TableMath
namespace Go.Proofs.YtpoinibckmbfcaaGreatDoor.UserL
end Go.Proofs.YtpoinibckmbfcaaGreatDoor.UserL
namespace Go.Proofs.YtpoinibckmbfcaaGreatDoor.UserM
end Go.Proofs.YtpoinibckmbfcaaGreatDoor.UserM
namespace Go.Proofs.YtpoinibckmbfcaaGreatDoor.UserR
end Go.Proofs.YtpoinibckmbfcaaGreatDoor.UserR
namespace Go.Proofs.YtpoinibckmbfcaaGreatDoor.UserT
end Go.Proofs.YtpoinibckmbfcaaGreatDoor.UserT
namespace Go.Proofs.YtpoinibckmbfcaaGreatDoor.ValT
end Go.Proofs.YtpoinibckmbfcaaGreatDoor.ValT
namespace Go.Proofs.YtpoinibckmbfcaaGreatDoor.Wit
end Go.Proofs.YtpoinibckmbfcaaGreatDoor.Wit
namespace Go.Proofs.YtpoinibckmbfcaaGreatDoor.macRounds
end Go.Proofs.YtpoinibckmbfcaaGreatDoor.macRounds
namespace Go.Proofs.YtpoinibckmbfcaaGreatDoor.userBack
end Go.Proofs.YtpoinibckmbfcaaGreatDoor.userBack
namespace Go.Proofs.YtpoinibckmbfcaaGreatDoor.userBoth
end Go.Proofs.YtpoinibckmbfcaaGreatDoor.userBoth
namespace Go.Proofs.YtpoinibckmbfcaaGreatDoor.userOnce
end Go.Proofs.YtpoinibckmbfcaaGreatDoor.userOnce
namespace Go.Proofs.YtpoinibckmbfcaaGreatDoor.Kit
open Go.RowKit
theorem ret_bool {a b : Bool} (h : a = b) : Ending.returned (.bool a) = .returned (.bool b) := by rw [h]
theorem ret_int {k : IntKind} {a a' : Int} (h : a = a') : Ending.returned (.int k a) = .returned (.int k a') := by rw [h]
theorem ret_str {a a' : ByteArray} (h : a = a') : Ending.returned (.string a) = .returned (.string a') := by rw [h]
theorem ret_ib {a a' : Int} {b b' : Bool} (h : a = a') (h' : b = b') : Ending.returned (.tuple #[.int .i64 a, .bool b]) = .returned (.tuple #[.int .i64 a', .bool b']) := by rw [h, h']
theorem var_keep {P : Program} {W W' : World} {n : String} {cs : Array Value} (h : Below W.heap.size W W') (hv : W.var? P n = some cs) : W'.var? P n = some cs := by
 rcases hg : P.globalNamed n with _ | g
 · unfold World.var? at hv
   simp [hg] at hv
 · have hlt : g < W.heap.size := by
    rcases Nat.lt_or_ge g W.heap.size with h' | h'
    · exact h'
    · unfold World.var? at hv
      simp [hg, Array.getElem?_eq_none h'] at hv
   exact var?_below h hg hlt hv
theorem bcell {W w1 : World} (hb : Below W.heap.size W w1) : (∀ b o, b < W.heap.size → w1.cell? ⟨b, o, none⟩ = W.cell? ⟨b, o, none⟩) ∧ (∀ b o, b < W.heap.size → w1.frozen? ⟨b, o, none⟩ = W.frozen? ⟨b, o, none⟩) :=
 ⟨fun b o h => hb.cell (p := ⟨b, o, none⟩) h, fun b o h => hb.frozen (p := ⟨b, o, none⟩) h⟩
def Row8 (w : World) (b : Nat) (l : List UInt8) : Prop := ∀ j (h : j < l.length), w.cell? ⟨b, j, none⟩ = some (.int .u8 (l[j].toNat : Int)) ∧ w.frozen? ⟨b, j, none⟩ = false
theorem Row8.at_ {w : World} {b : Nat} {l : List UInt8} (h : Row8 w b l) (j : Nat) (hj : j < l.length) : w.cell? ⟨b, j, none⟩ = some (.int .u8 (l[j].toNat : Int)) := (h j hj).1
theorem Row8.frz {w : World} {b : Nat} {l : List UInt8} (h : Row8 w b l) (j : Nat) (hj : j < l.length) : w.frozen? ⟨b, j, none⟩ = false := (h j hj).2
theorem Row8.set {w : World} {b : Nat} {l : List UInt8} (h : Row8 w b l) (j : Nat) (hj : j < l.length) (c : UInt8) : Row8 (w.setCell ⟨b, j, none⟩ (.int .u8 (c.toNat : Int))) b (l.set j c) := by
 intro i hi0
 have hi : i < l.length := by simpa using hi0
 refine ⟨?_, ?_⟩
 · by_cases e : i = j
   · subst e
     rw [World.cell?_setCell_same w _ _ (h.at_ i hi)]
     simp
   · rw [World.cell?_setCell_other w _ _ _ (by intro e'; injection e' with _ e'; exact e e'.symm), h.at_ i hi]
     rw [List.getElem_set_ne (by omega)]
 · rw [World.frozen?_setCell]
   exact h.frz i hi
theorem frozen_marked {W : World} {b : Nat} {C : Array Value} {t : TypeId} {n j : Nat} (h : W.heap[b]? = some (.cells C t (n, n + 1))) (hj : j < n) : W.frozen? ⟨b, j, none⟩ = false := by
 simp [World.frozen?, h]
 omega
theorem bytesWorld_row (w : World) (e : TypeId) (s : ByteArray) : Row8 (Lib.bytesWorld w e s) w.heap.size s.data.toList := by
 intro j hj
 have hj' : j < s.size := by simpa using hj
 refine ⟨?_, frozen_marked (Lib.bytesWorld_at_new w e s) ?_⟩
 · rw [Lib.bytesWorld_cell w e s j hj', List.getD_eq_getElem?_getD, List.getElem?_eq_getElem hj]
   rfl
 · unfold Lib.bytesCells
   rw [Array.size_append, Array.size_map]
   have : s.data.size = s.size := rfl
   omega
theorem bytesWorld_below (w : World) (e : TypeId) (s : ByteArray) : Below w.heap.size w (Lib.bytesWorld w e s) :=
 ⟨rfl, rfl, rfl, by rw [Lib.bytesWorld_size]; omega, fun k hk => Lib.bytesWorld_at_old w e s k hk⟩
theorem run_row_string {P : Program} (w : World) (src e dst : TypeId) (hs : P.underlying src = some (.slice e)) (he : P.underlying e = some (.int .u8)) (hd : P.underlying dst = some .string) (b : Nat) (l : List UInt8) (h : Row8 w b l) (n cap : Nat) (hn : n = l.length) :
  (convert src dst (.slice (some ⟨b, 0, none⟩) n cap)).run P w = .ok (.string ⟨l.toArray⟩) w := by
 subst hn
 have hz : (⟨l.toArray⟩ : ByteArray).size = l.length := by simp [ByteArray.size]
 have := Lib.run_convert_whole (P := P) w src e dst hs he hd b 0 ⟨l.toArray⟩ (fun i hi => by
  rw [hz] at hi
  have := h.at_ i hi
  rw [Nat.zero_add, this]
  rfl) cap
 rw [hz] at this
 exact this
def bv (l : List UInt8) : List Value := l.map fun c => .int .u8 (c.toNat : Int)
theorem bv_length (l : List UInt8) : (bv l).length = l.length := by simp [bv]
theorem bv_snoc (l : List UInt8) (c : UInt8) : bv (l ++ [c]) = bv l ++ [.int .u8 (c.toNat : Int)] := by simp [bv]
theorem bv_app (l r : List UInt8) : bv (l ++ r) = bv l ++ bv r := by simp [bv]
theorem bv_one (l : List UInt8) : ∀ u ∈ bv l, u.oneCell' = true := by
 intro u hu
 obtain ⟨c, _, rfl⟩ := List.mem_map.1 hu
 rfl
theorem run_own_string {P : Program} {w : World} {src e dst : TypeId} (hs : P.underlying src = some (.slice e)) (he : P.underlying e = some (.int .u8)) (hd : P.underlying dst = some .string) {base : Nat} {v : Value} {n : Nat} {l : List UInt8} (hown : w.ownsRow base e 1 v n (bv l)) :
  (convert src dst v).run P w = .ok (.string ⟨l.toArray⟩) w := by
 have hl : l.length = n := by have := hown.1; rw [bv_length] at this; omega
 rcases hown.2 with ⟨rfl, h0⟩ | ⟨g, cap, cur, rfl, _, hh, hc, _, hsz, htake⟩
 · have : l = [] := List.eq_nil_of_length_eq_zero (by omega)
   subst this
   rw [run_convert_bytes_nil w src e hs he 0 0 dst hd]
   rfl
 · have hrow : ∀ j (h : j < l.length), w.cell? ⟨g, j, none⟩ = some (.int .u8 (l[j].toNat : Int)) := by
    intro j hj
    rw [hown.cellAt j (by omega)]
    simp [bv, hj]
   have hz : (⟨l.toArray⟩ : ByteArray).size = l.length := by simp [ByteArray.size]
   have := Lib.run_convert_whole (P := P) w src e dst hs he hd g 0 ⟨l.toArray⟩ (fun i hi => by
    rw [hz] at hi
    rw [Nat.zero_add, hrow i hi]
    rfl) cap
   rw [hz, hl] at this
   exact this
theorem own_base {w : World} {base : Nat} {e : TypeId} {size : Nat} {v : Value} {n : Nat} {xs : List Value} (h : w.ownsRow base e size v n xs) : ∀ k, v.ownBlock = some k → base ≤ k := by
 intro k hk
 rcases h.2 with ⟨rfl, _⟩ | ⟨g, cap, cur, rfl, hg, _⟩
 · simp [Value.ownBlock] at hk
 · simp [Value.ownBlock] at hk
   omega
theorem one_news (w : World) (c : Value) (t : TypeId) : ∀ j u, [c][j]? = some u → (w.alloc (.cells #[c] t)).cell? ((⟨w.heap.size, 0, none⟩ : Addr).add j) = some u := by
 intro j u hj
 match j, hj with
 | 0, hj => simp at hj; subst hj; simp [Addr.add]
 | j + 1, hj => simp at hj
theorem take_snoc (s : ByteArray) (k : Nat) (h : k < s.size) : s.data.toList.take (k + 1) = s.data.toList.take k ++ [s[k]] := by
 rw [List.take_succ_eq_append_getElem (by simpa using h)]; rfl
end Go.Proofs.YtpoinibckmbfcaaGreatDoor.Kit
namespace Go.Proofs.YtpoinibckmbfcaaGreatDoor.RowG
open Go.RowKit Kit
set_option linter.unusedVariables false
set_option maxRecDepth 100000
structure Enc (α : Type) where
 enc : α → List Value
 sz : Nat
 bytes : Nat
 ty : TypeId
 slt : TypeId
 zero : Value
 len : ∀ a, (enc a).length = sz
 one : ∀ a, ∀ u ∈ enc a, u.oneCell' = true
 pos : 0 < sz
 info : (Tryz.prog.info? ty).map (fun i => (i.zero, i.size, i.bytes)) = some (some zero, sz, bytes)
 zlen : zero.cells.size = sz
 by64 : bytes ≤ 256
 und : Tryz.prog.underlying slt = some (.slice ty)
variable {α : Type}
def flat (E : Enc α) (L : List α) : List Value := (L.map E.enc).flatten
theorem flat_len (E : Enc α) : ∀ L : List α, (flat E L).length = L.length * E.sz
  | [] => by simp [flat]
  | c :: L => by
    have ih := flat_len E L
    unfold flat at ih ⊢
    rw [List.map_cons, List.flatten_cons, List.length_append, ih, List.length_cons, E.len, Nat.succ_mul]
    omega
theorem flat_app (E : Enc α) (L R : List α) : flat E (L ++ R) = flat E L ++ flat E R := by simp [flat]
theorem flat_cons (E : Enc α) (a : α) (L : List α) : flat E (a :: L) = E.enc a ++ flat E L := rfl
theorem flat_one1 (E : Enc α) (a : α) : flat E [a] = E.enc a := by simp [flat]
theorem flat_at (E : Enc α) : ∀ (L : List α) (i : Nat) (h : i < L.length) (d : Nat), d < E.sz → (flat E L)[i * E.sz + d]? = (E.enc L[i])[d]?
  | c :: L, 0, _, d, hd => by
    rw [flat_cons, Nat.zero_mul, Nat.zero_add, List.getElem?_append_left (by rw [E.len]; exact hd)]
    rfl
  | c :: L, i + 1, h, d, hd => by
    rw [flat_cons, List.getElem?_append_right (by rw [E.len, Nat.succ_mul]; omega), show (i + 1) * E.sz + d - (E.enc c).length = i * E.sz + d by rw [E.len, Nat.succ_mul]; omega]
    exact flat_at E L i (by simpa using h) d hd
theorem flat_one (E : Enc α) (L : List α) : ∀ u ∈ flat E L, u.oneCell' = true := by
 intro u hu
 obtain ⟨x, hx, hux⟩ := List.mem_flatten.1 hu
 obtain ⟨c, -, rfl⟩ := List.mem_map.1 hx
 exact E.one c u hux
theorem flat_take (E : Enc α) (L : List α) (k : Nat) : flat E (L.take k) = (flat E L).take (k * E.sz) := by
 rcases Nat.lt_or_ge k L.length with h | h
 · have e : flat E L = flat E (L.take k) ++ flat E (L.drop k) := by rw [← flat_app, List.take_append_drop]
   have hl : (flat E (L.take k)).length = k * E.sz := by rw [flat_len, List.length_take, Nat.min_eq_left (by omega)]
   rw [e]
   exact (List.take_left' hl).symm
 · rw [List.take_of_length_le h, List.take_of_length_le]
   rw [flat_len]
   exact Nat.mul_le_mul_right _ h
theorem mul_lt {i n s d : Nat} (h : i < n) (hd : d < s) : i * s + d < n * s := by
 have : (i + 1) * s ≤ n * s := Nat.mul_le_mul_right _ h
 rw [Nat.succ_mul] at this
 omega
def Rs (E : Enc α) (w : World) (q : Option Addr) (L : List α) : Prop :=
 0 < L.length → ∃ b off, q = some ⟨b, off, none⟩ ∧ b < w.heap.size ∧ ∀ j, j < L.length * E.sz → w.cell? ⟨b, off + j, none⟩ = (flat E L)[j]?
variable {E : Enc α} {w w' : World} {q : Option Addr} {L : List α}
theorem Rs.keep (h : Rs E w q L) (hb : Below w.heap.size w w') : Rs E w' q L := by
 intro h0
 obtain ⟨b, off, hp, hlt, hc⟩ := h h0
 exact ⟨b, off, hp, Nat.lt_of_lt_of_le hlt hb.size, fun j hj => by rw [hb.cell (p := ⟨b, off + j, none⟩) hlt]; exact hc j hj⟩
theorem Rs.nil (E : Enc α) (w : World) (q : Option Addr) : Rs E w q [] := fun h => absurd h (by simp)
theorem Rs.take (h : Rs E w q L) (n : Nat) : Rs E w q (L.take n) := by
 intro h0
 rw [List.length_take] at h0
 obtain ⟨b, off, hp, hlt, hc⟩ := h (by omega)
 refine ⟨b, off, hp, hlt, fun j hj => ?_⟩
 rw [List.length_take] at hj
 have h1 : min n L.length * E.sz ≤ L.length * E.sz := Nat.mul_le_mul_right _ (by omega)
 have h2 : min n L.length * E.sz ≤ n * E.sz := Nat.mul_le_mul_right _ (by omega)
 rw [hc j (by omega), flat_take, List.getElem?_take, if_pos (by omega)]
theorem Rs.cells (h : Rs E w q L) (i : Nat) (hi : i < L.length) : ∃ b off, q = some ⟨b, off, none⟩ ∧ b < w.heap.size ∧ ∀ d, d < E.sz → w.cell? ⟨b, off + i * E.sz + d, none⟩ = (E.enc L[i])[d]? := by
 obtain ⟨b, off, hp, hlt, hc⟩ := h (by omega)
 refine ⟨b, off, hp, hlt, fun d hd => ?_⟩
 rw [Nat.add_assoc, hc _ (mul_lt hi hd)]
 exact flat_at E L i hi d hd
def OwnR (E : Enc α) (base : Nat) (w : World) (v : Value) (L : List α) : Prop := w.ownsRow base E.ty E.sz v L.length (flat E L)
theorem ownR_keep {base : Nat} {v : Value} (h : OwnR E base w v L) (hb : Below w.heap.size w w') : OwnR E base w' v L := by
 refine ⟨h.1, ?_⟩
 rcases h.2 with ⟨e, h0⟩ | ⟨g, cap, cur, e, hg, hh, h1, h2, h3, h4⟩
 · exact Or.inl ⟨e, h0⟩
 · have hlt : g < w.heap.size := by
    rcases Nat.lt_or_ge g w.heap.size with h' | h'
    · exact h'
    · rw [Array.getElem?_eq_none h'] at hh; cases hh
   exact Or.inr ⟨g, cap, cur, e, hg, by rw [hb.block g hlt]; exact hh, h1, h2, h3, h4⟩
theorem OwnR.keep {base : Nat} {v : Value} (h : OwnR E base w v L) (hb : Below w.heap.size w w') : OwnR E base w' v L := ownR_keep h hb
theorem OwnR.low {b b' : Nat} {v : Value} (h : OwnR E b w v L) (hb : b' ≤ b) : OwnR E b' w v L := by
 refine ⟨h.1, ?_⟩
 rcases h.2 with h1 | ⟨g, cap, cur, e, hg, h2⟩
 · exact Or.inl h1
 · exact Or.inr ⟨g, cap, cur, e, Nat.le_trans hb hg, h2⟩
theorem OwnR.drew {base : Nat} {v : Value} (h : OwnR E base w v L) : OwnR E base w.drew v L := h
theorem ownR_nil (E : Enc α) (base : Nat) (w : World) : OwnR E base w (.slice none 0 0) [] := ⟨by simp [flat], Or.inl ⟨rfl, rfl⟩⟩
theorem ownR_new (E : Enc α) (base : Nat) (w : World) (k : Nat) (hk : k = w.heap.size) (hb : base ≤ w.heap.size) : OwnR E base (w.alloc (.cells #[] E.ty)) (.slice (some ⟨k, 0, none⟩) 0 0) [] := by
 subst hk
 exact World.ownsRow_lit w #[] 0 hb (by simp [maxLen]) (by simp)
theorem ownR_lit (E : Enc α) (base : Nat) (w W : World) (L : List α) (cs : Array Value) (k n : Nat) (hcs : cs = (flat E L).toArray) (hk : k = w.heap.size) (hn : n = L.length) (hW : W = w.alloc (.cells cs E.ty)) (hb : base ≤ w.heap.size) (hm : n ≤ 1048576) : OwnR E base W (.slice (some ⟨k, 0, none⟩) n n) L := by
 subst hcs hk hn hW
 have h := World.ownsRow_lit (e := E.ty) (size := E.sz) (base := base) w (flat E L).toArray L.length hb (by unfold maxLen; omega) (by simp [flat_len])
 simpa [OwnR] using h
def AnsR (E : Enc α) (base : Nat) (w : World) (v : Value) (L : List α) : Prop :=
 ∃ q c, v = .slice q L.length c ∧ Rs E w q L ∧ (∀ a, q = some a → base ≤ a.block) ∧ L.length ≤ c ∧ c ≤ 9223372036854775807 ∧ (q = none → c = 0)
theorem OwnR.ans {base : Nat} {v : Value} (h : OwnR E base w v L) : AnsR E base w v L := by
 rcases id h.2 with ⟨rfl, h0⟩ | ⟨g, cap, cur, rfl, hgb, hh, hc, hm, hsz, htake⟩
 · obtain rfl : L = [] := List.eq_nil_of_length_eq_zero h0
   exact ⟨none, 0, rfl, Rs.nil _ _ _, (fun a h => by cases h), by simp, by omega, fun _ => rfl⟩
 · unfold maxLen at hm
   refine ⟨_, cap, rfl, fun h0 => ⟨g, 0, rfl, ?_, fun j hj => ?_⟩, (fun a ha => by injection ha with ha; subst ha; exact hgb), hc, by omega, fun h => by cases h⟩
   · rcases Nat.lt_or_ge g w.heap.size with h' | h'
     · exact h'
     · rw [Array.getElem?_eq_none h'] at hh; cases hh
   · rw [Nat.zero_add]
     exact World.ownsRow.cellAt h j hj
theorem AnsR.keep {base : Nat} {v : Value} (h : AnsR E base w v L) (hb : Below w.heap.size w w') : AnsR E base w' v L := by
 obtain ⟨q, c, hv, hS, h1⟩ := h
 exact ⟨q, c, hv, hS.keep hb, h1⟩
theorem AnsR.low {b b' : Nat} {v : Value} (h : AnsR E b w v L) (hb : b' ≤ b) : AnsR E b' w v L := by
 obtain ⟨q, c, hv, hS, hge, h1⟩ := h
 exact ⟨q, c, hv, hS, fun a ha => Nat.le_trans hb (hge a ha), h1⟩
theorem own_base_r {base size n : Nat} {e : TypeId} {v : Value} {xs : List Value} (h : w.ownsRow base e size v n xs) : ∀ k, v.ownBlock = some k → base ≤ k := by
 intro k hk
 rcases h.2 with ⟨rfl, -⟩ | ⟨g, cap, cur, rfl, hg, -⟩
 · cases hk
 · injection hk with hk
   subst hk
   exact hg
theorem rec_new (E : Enc α) (W : World) (k : Nat) (a : α) (cs : Array Value) (hcs : cs = (E.enc a).toArray) (hk : k = W.heap.size) : ∀ j, j < E.sz → (W.alloc (.cells cs E.ty)).cell? ⟨k, j, none⟩ = (E.enc a)[j]? := fun j hj => by
 subst hcs hk
 rw [cell_of_row _ _ _ _ E.ty _ (heap_alloc_last W _)]
 simp
theorem wpList_append_r (E : Enc α) {w0 w : World} {ops : Array Oper} {rest : List Oper} {o : Oper} {a : Act} {Q : Exit → Act → World → Prop} (hgd : o.guard = none) (s x : Operand)
    (ho : o.op = .call { callee := .builtin .append, args := #[s, x], argTypes := #[E.slt, E.slt] })
    (v : Value) (L : List α) (hs : a.eval s = v) (hown : OwnR E w0.heap.size w v L) (hb : Below w0.heap.size w0 w)
    (g : Nat) (u : α) (c : Nat) (hx : a.eval x = .slice (some ⟨g, 0, none⟩) 1 c) (hg : ∀ j, j < E.sz → w.cell? ⟨g, j, none⟩ = (E.enc u)[j]?) (hsz : L.length ≤ 1048576)
    (h : ∀ v' w', OwnR E w0.heap.size w' v' (L ++ [u]) → Below w0.heap.size w0 w' → wpList Tryz.prog ops Q rest (a.put o.dst v') w') : wpList Tryz.prog ops Q (o :: rest) a w := by
  obtain ⟨i0, hi0, hz0, hz1, hzb⟩ := info_parts E.info
  refine wpList_append_own w hgd s x E.slt ho w0.heap.size E.ty i0 E.zero E.sz E.bytes E.und hi0 hz0 hz1 hzb E.zlen E.pos v L.length (flat E L) hs hown ⟨g, 0, none⟩ 1 c (E.enc u) hx (by rw [E.len, Nat.one_mul]) (fun j z hz => ?_) (E.one u) (by unfold maxLen; omega) ?_ hb.size ?_
  · have hj : j < E.sz := by rw [← E.len u]; exact (List.getElem?_eq_some_iff.1 hz).1
    rw [Addr.add_lit]
    first
     | rw [hg j hj]; exact hz
     | rw [Nat.zero_add, hg j hj]; exact hz
  · have := E.by64
    have h1 : (L.length + 1) * E.bytes ≤ 1048577 * 256 := Nat.mul_le_mul (by omega) this
    omega
  · intro v' w' h1 h2 _
    refine h v' w' ?_ (hb.grown h2 hb.size (own_base_r hown))
    unfold OwnR
    rw [List.length_append, flat_app, flat_one1]
    exact h1
theorem step_append_r (E : Enc α) {w0 w : World} {ops : Array Oper} {o : Oper} {a : Act} {K : Act → World → Prop} {Q : Exit → Act → World → Prop} {F : Prop} (hgd : o.guard = none) (s x : Operand)
    (ho : o.op = .call { callee := .builtin .append, args := #[s, x], argTypes := #[E.slt, E.slt] })
    (v : Value) (L : List α) (hs : a.eval s = v) (hown : OwnR E w0.heap.size w v L) (hb : Below w0.heap.size w0 w)
    (g : Nat) (u : α) (c : Nat) (hx : a.eval x = .slice (some ⟨g, 0, none⟩) 1 c) (hg : ∀ j, j < E.sz → w.cell? ⟨g, j, none⟩ = (E.enc u)[j]?) (hsz : L.length ≤ 1048576)
    (h : ∀ v' w', OwnR E w0.heap.size w' v' (L ++ [u]) → Below w0.heap.size w0 w' → K (a.put o.dst v') w') : if Region.wanted o (yielded ops a.tmps) = true then Oper.wp Tryz.prog o a w K Q else F := by
  rw [if_pos (by simp [Region.wanted, hgd])]
  obtain ⟨i0, hi0, hz0, hz1, hzb⟩ := info_parts E.info
  refine wp_append_own w s x E.slt ho w0.heap.size E.ty i0 E.zero E.sz E.bytes E.und hi0 hz0 hz1 hzb E.zlen E.pos v L.length (flat E L) hs hown ⟨g, 0, none⟩ 1 c (E.enc u) hx (by rw [E.len, Nat.one_mul]) (fun j z hz => ?_) (E.one u) (by unfold maxLen; omega) ?_ hb.size ?_
  · have hj : j < E.sz := by rw [← E.len u]; exact (List.getElem?_eq_some_iff.1 hz).1
    rw [Addr.add_lit]
    first
     | rw [hg j hj]; exact hz
     | rw [Nat.zero_add, hg j hj]; exact hz
  · have := E.by64
    have h1 : (L.length + 1) * E.bytes ≤ 1048577 * 256 := Nat.mul_le_mul (by omega) this
    omega
  · intro v' w' h1 h2 _
    refine h v' w' ?_ (hb.grown h2 hb.size (own_base_r hown))
    unfold OwnR
    rw [List.length_append, flat_app, flat_one1]
    exact h1
theorem wpList_append_rs (E : Enc α) {w0 w : World} {ops : Array Oper} {rest : List Oper} {o : Oper} {a : Act} {Q : Exit → Act → World → Prop} (hgd : o.guard = none) (s x : Operand)
    (ho : o.op = .call { callee := .builtin .append, args := #[s, x], argTypes := #[E.slt, E.slt] })
    (v : Value) (L : List α) (hs : a.eval s = v) (hown : OwnR E w0.heap.size w v L) (hb : Below w0.heap.size w0 w)
    (q : Option Addr) (M : List α) (m c : Nat) (hx : a.eval x = .slice q m c) (hm : M.length = m) (hM : Rs E w q M) (hnil : q = none → c = 0) (hsz : L.length + m ≤ 2097152) (Z : List α) (hZ : Z = L ++ M)
    (h : ∀ v' w', OwnR E w0.heap.size w' v' Z → Below w0.heap.size w0 w' → wpList Tryz.prog ops Q rest (a.put o.dst v') w') : wpList Tryz.prog ops Q (o :: rest) a w := by
  subst hZ hm
  obtain ⟨i0, hi0, hz0, hz1, hzb⟩ := info_parts E.info
  cases q with
  | none =>
    obtain rfl : M = [] := by
     cases M with
     | nil => rfl
     | cons y r => obtain ⟨b, off, e, -⟩ := hM (by simp); cases e
    obtain rfl := hnil rfl
    refine wpList_append_own_none hgd s x E.slt ho w0.heap.size E.ty i0 E.sz E.und hi0 v L.length (flat E L) hs hown hx ?_
    refine h v w ?_ hb
    rw [List.append_nil]
    exact hown
  | some ad =>
    refine wpList_append_own w hgd s x E.slt ho w0.heap.size E.ty i0 E.zero E.sz E.bytes E.und hi0 hz0 hz1 hzb E.zlen E.pos v L.length (flat E L) hs hown ad M.length c (flat E M) hx (flat_len E M) (fun j u hu => ?_) (flat_one E M) (by unfold maxLen; omega) ?_ hb.size ?_
    · have hj : j < M.length * E.sz := by rw [← flat_len E M]; exact (List.getElem?_eq_some_iff.1 hu).1
      have h0 : 0 < M.length := by
       rcases Nat.eq_zero_or_pos M.length with h0 | h0
       · rw [h0, Nat.zero_mul] at hj; omega
       · exact h0
      obtain ⟨b, off, e, -, hc⟩ := hM h0
      injection e with e
      subst e
      rw [← hu]
      rw [Addr.add_lit]
      exact hc j hj
    · have := E.by64
      have h1 : (L.length + M.length) * E.bytes ≤ 2097152 * 256 := Nat.mul_le_mul (by omega) this
      omega
    · intro v' w' h1 h2 _
      refine h v' w' ?_ (hb.grown h2 hb.size (own_base_r hown))
      unfold OwnR
      rw [List.length_append, flat_app]
      exact h1
def partAt (E : Enc α) (p : Option Addr) (c lo : Nat) : Option Addr := if c = lo then p else p.map (·.add (lo * E.sz))
theorem part_zero (E : Enc α) (p : Option Addr) (c : Nat) : partAt E p c 0 = p := by
 unfold partAt
 split
 · rfl
 · cases p with
   | none => rfl
   | some a => simp [Addr.add]
end Go.Proofs.YtpoinibckmbfcaaGreatDoor.RowG
namespace Go.Proofs.YtpoinibckmbfcaaGreatDoor.RowG
open Go.RowKit Kit
set_option linter.unusedVariables false
set_option maxRecDepth 100000
variable {α : Type} {E : Enc α}
def Made (E : Enc α) (w : World) (g n : Nat) : Prop := ∃ cur, w.heap[g]? = some (.cells cur E.ty (0, 0)) ∧ n ≤ maxLen ∧ cur.size = n * E.sz
end Go.Proofs.YtpoinibckmbfcaaGreatDoor.RowG
namespace Go.Proofs.YtpoinibckmbfcaaGreatDoor.StrT
open Go.RowKit Kit
set_option linter.unusedVariables false
set_option maxRecDepth 100000
def sv (L : List (List UInt8)) : List Value := L.map fun l => .string ⟨l.toArray⟩
theorem sv_at (L : List (List UInt8)) (j : Nat) (h : j < L.length) : (sv L)[j]? = some (.string ⟨L[j].toArray⟩) := by simp [sv, h]
def Ss (w : World) (q : Option Addr) (L : List (List UInt8)) : Prop :=
 0 < L.length → ∃ b off, q = some ⟨b, off, none⟩ ∧ b < w.heap.size ∧ ∀ j (h : j < L.length), w.cell? ⟨b, off + j, none⟩ = some (.string ⟨L[j].toArray⟩)
theorem Ss.keep {w w' : World} {q : Option Addr} {L : List (List UInt8)} (h : Ss w q L) (hb : Below w.heap.size w w') : Ss w' q L := by
 intro h0
 obtain ⟨b, off, hp, hlt, hc⟩ := h h0
 exact ⟨b, off, hp, Nat.lt_of_lt_of_le hlt hb.size, fun j hj => by rw [hb.cell (p := ⟨b, off + j, none⟩) hlt]; exact hc j hj⟩
theorem Ss.take {w : World} {q : Option Addr} {L : List (List UInt8)} (h : Ss w q L) (n : Nat) : Ss w q (L.take n) := by
 intro h0
 rw [List.length_take] at h0
 obtain ⟨b, off, hp, hlt, hc⟩ := h (by omega)
 refine ⟨b, off, hp, hlt, fun j hj => ?_⟩
 rw [List.length_take] at hj
 rw [hc j (by omega)]
 simp
theorem str_parts : (Tryz.prog.info? 9).map (fun i => (i.zero, i.size, i.bytes)) = some (some (.string ByteArray.empty), 1, 16) := by kernel_rfl
def OwnS (base : Nat) (w : World) (v : Value) (L : List (List UInt8)) : Prop := w.ownsRow base 9 1 v L.length (sv L)
theorem OwnS.new (w : World) : OwnS w.heap.size (w.alloc (.cells #[] 9)) (.slice (some ⟨w.heap.size, 0, none⟩) 0 0) [] :=
 World.ownsRow_lit w #[] 0 (Nat.le_refl _) (by simp [maxLen]) rfl
theorem owns_keep {base size n : Nat} {e : TypeId} {w w' : World} {v : Value} {xs : List Value} (h : w.ownsRow base e size v n xs) (hb : Below w.heap.size w w') : w'.ownsRow base e size v n xs := by
 refine ⟨h.1, ?_⟩
 rcases h.2 with ⟨e, h0⟩ | ⟨g, cap, cur, e, hg, hh, h1, h2, h3, h4⟩
 · exact Or.inl ⟨e, h0⟩
 · have hlt : g < w.heap.size := by
    rcases Nat.lt_or_ge g w.heap.size with h' | h'
    · exact h'
    · rw [Array.getElem?_eq_none h'] at hh; cases hh
   exact Or.inr ⟨g, cap, cur, e, hg, by rw [hb.block g hlt]; exact hh, h1, h2, h3, h4⟩
theorem OwnS.keep {base : Nat} {w w' : World} {v : Value} {L : List (List UInt8)} (h : OwnS base w v L) (hb : Below w.heap.size w w') : OwnS base w' v L := owns_keep h hb
def partAt (p : Option Addr) (c lo : Nat) : Option Addr := if c = lo then p else p.map (·.add (lo * 1))
theorem elem_str : Tryz.prog.underlying 22 = some (.slice (Tryz.prog.elem 22)) := by kernel_rfl
theorem size_str (w : World) : (Go.sizeOf (Tryz.prog.elem 22)).run Tryz.prog w = .ok 1 w := by kernel_rfl
end Go.Proofs.YtpoinibckmbfcaaGreatDoor.StrT
namespace Go.Proofs.YtpoinibckmbfcaaGreatDoor.StrT
open Go.RowKit Kit
set_option linter.unusedVariables false
set_option maxRecDepth 100000
theorem Ss.drop {w : World} {q : Option Addr} {L : List (List UInt8)} (h : Ss w q L) (lo : Nat) (hlo : lo ≤ L.length) (c : Nat) (hc : L.length ≤ c) : Ss w (partAt q c lo) (L.drop lo) := by
 intro h0
 rw [List.length_drop] at h0
 obtain ⟨b, off, e, hlt, hcell⟩ := h (by omega)
 subst e
 refine ⟨b, off + lo, ?_, hlt, fun j hj => ?_⟩
 · unfold partAt
   rw [if_neg (by omega)]
   simp [Addr.add]
 · rw [List.length_drop] at hj
   rw [Nat.add_assoc, hcell (lo + j) (by omega)]
   simp
theorem sl_l (p : Option Addr) (n c lo : Nat) (h1 : lo ≤ n) (h2 : n ≤ c) (W : World) :
  (Instr.slice 22 (.slice p n c) (some (.int .i64 (lo : Int))) none none).run Tryz.prog W = .ok (.slice (partAt p c lo) (n - lo) (c - lo)) W := by
 rw [run_slice_l (P := Tryz.prog) W 22 p n c elem_str .i64 (lo : Int) (by omega) (by omega), size_str]
 simp [Result.andThen, sliced, partAt]
end Go.Proofs.YtpoinibckmbfcaaGreatDoor.StrT
namespace Go.Proofs.YtpoinibckmbfcaaGreatDoor.TableMath
open Go.RowKit Kit
set_option linter.unusedVariables false
set_option maxRecDepth 100000
structure Cmd where
 name : List UInt8
 ar : Int
 ct : Nat
def cmds : List Cmd := [
  ⟨[103, 101, 116], 2, 9⟩,
  ⟨[115, 101, 116], -3, 10⟩,
  ⟨[97, 112, 112, 101, 110, 100], 3, 10⟩,
  ⟨[115, 116, 114, 108, 101, 110], 2, 9⟩,
  ⟨[105, 110, 99, 114, 98, 121], 3, 10⟩,
  ⟨[105, 110, 99, 114], 2, 10⟩,
  ⟨[103, 101, 116, 100, 101, 108], 2, 10⟩,
  ⟨[109, 103, 101, 116], -2, 9⟩,
  ⟨[109, 115, 101, 116], -3, 10⟩,
  ⟨[108, 112, 117, 115, 104], -3, 18⟩,
  ⟨[114, 112, 117, 115, 104], -3, 18⟩,
  ⟨[108, 112, 111, 112], 2, 18⟩,
  ⟨[114, 112, 111, 112], 2, 18⟩,
  ⟨[108, 108, 101, 110], 2, 17⟩,
  ⟨[108, 114, 97, 110, 103, 101], 4, 17⟩,
  ⟨[104, 115, 101, 116], 4, 34⟩,
  ⟨[104, 103, 101, 116], 3, 33⟩,
  ⟨[104, 100, 101, 108], -3, 34⟩,
  ⟨[104, 108, 101, 110], 2, 33⟩,
  ⟨[104, 103, 101, 116, 97, 108, 108], 2, 33⟩,
  ⟨[104, 105, 110, 99, 114, 98, 121], 4, 34⟩,
  ⟨[115, 97, 100, 100], -3, 66⟩,
  ⟨[115, 114, 101, 109], -3, 66⟩,
  ⟨[115, 105, 115, 109, 101, 109, 98, 101, 114], 3, 65⟩,
  ⟨[115, 109, 101, 109, 98, 101, 114, 115], 2, 65⟩,
  ⟨[115, 99, 97, 114, 100], 2, 65⟩,
  ⟨[115, 109, 111, 118, 101], 4, 66⟩,
  ⟨[122, 97, 100, 100], 4, 130⟩,
  ⟨[122, 114, 101, 109], -3, 130⟩,
  ⟨[122, 115, 99, 111, 114, 101], 3, 129⟩,
  ⟨[122, 114, 97, 110, 103, 101], 4, 129⟩,
  ⟨[122, 99, 97, 114, 100], 2, 129⟩,
  ⟨[122, 105, 110, 99, 114, 98, 121], 4, 130⟩,
  ⟨[100, 101, 108], -2, 6⟩,
  ⟨[101, 120, 105, 115, 116, 115], -2, 5⟩,
  ⟨[116, 121, 112, 101], 2, 5⟩,
  ⟨[101, 120, 112, 105, 114, 101], 3, 6⟩,
  ⟨[116, 116, 108], 2, 5⟩,
  ⟨[112, 101, 114, 115, 105, 115, 116], 2, 6⟩,
  ⟨[114, 101, 110, 97, 109, 101], 3, 6⟩,
  ⟨[107, 101, 121, 115], 2, 5⟩,
  ⟨[100, 98, 115, 105, 122, 101], 1, 5⟩,
  ⟨[102, 108, 117, 115, 104, 97, 108, 108], 1, 6⟩,
  ⟨[112, 105, 110, 103], 1, 512⟩,
  ⟨[101, 99, 104, 111], 2, 512⟩,
  ⟨[97, 117, 116, 104], -2, 512⟩,
  ⟨[113, 117, 105, 116], 1, 512⟩,
  ⟨[109, 117, 108, 116, 105], 1, 1024⟩,
  ⟨[101, 120, 101, 99], 1, 1024⟩,
  ⟨[100, 105, 115, 99, 97, 114, 100], 1, 1024⟩,
  ⟨[119, 97, 116, 99, 104], -2, 1024⟩,
  ⟨[117, 110, 119, 97, 116, 99, 104], 1, 1024⟩,
  ⟨[115, 117, 98, 115, 99, 114, 105, 98, 101], -2, 256⟩,
  ⟨[117, 110, 115, 117, 98, 115, 99, 114, 105, 98, 101], -1, 256⟩,
  ⟨[112, 117, 98, 108, 105, 115, 104], 3, 256⟩,
  ⟨[97, 99, 108], -2, 2048⟩]
theorem cmds_len : cmds.length = 56 := by decide
def nil : Cmd := ⟨[], 0, 0⟩
def cmdAt (i : Nat) : Cmd := cmds.getD i nil
theorem cmdAt_get (i : Nat) (h : i < 56) : cmdAt i = cmds[i]'(by rw [cmds_len]; exact h) := by
 unfold cmdAt
 rw [List.getD_eq_getElem?_getD, List.getElem?_eq_getElem (by rw [cmds_len]; exact h)]
 rfl
def cmdV (c : Cmd) : List Value := [.string ⟨c.name.toArray⟩, .int .i64 c.ar, .int .u16 (c.ct : Int)]
def aggV (c : Cmd) : Value := .agg #[.string ⟨c.name.toArray⟩, .int .i64 c.ar, .int .u16 (c.ct : Int)]
def flatV (L : List Cmd) : List Value := (L.map cmdV).flatten
theorem flatV_at : ∀ (L : List Cmd) (i : Nat) (h : i < L.length) (d : Nat), d < 3 → (flatV L)[3 * i + d]? = (cmdV L[i])[d]?
  | c :: L, 0, _, d, hd => by
    show (cmdV c ++ (L.map cmdV).flatten)[3 * 0 + d]? = _
    rw [Nat.mul_zero, Nat.zero_add, List.getElem?_append_left (show d < (cmdV c).length from hd)]
    rfl
  | c :: L, i + 1, h, d, hd => by
    show (cmdV c ++ (L.map cmdV).flatten)[3 * (i + 1) + d]? = _
    rw [List.getElem?_append_right (show (cmdV c).length ≤ 3 * (i + 1) + d by show 3 ≤ _; omega), show 3 * (i + 1) + d - (cmdV c).length = 3 * i + d by show 3 * (i + 1) + d - 3 = _; omega]
    exact flatV_at L i (by simpa using h) d hd
def Tab (w : World) (b : Nat) : Prop := b < w.heap.size ∧ ∀ j, j < 168 → w.cell? ⟨b, j, none⟩ = (flatV cmds)[j]?
theorem Tab.keep {w w' : World} {b : Nat} (h : Tab w b) (hb : Below w.heap.size w w') : Tab w' b :=
 ⟨Nat.lt_of_lt_of_le h.1 hb.size, fun j hj => by rw [hb.cell (p := ⟨b, j, none⟩) h.1]; exact h.2 j hj⟩
theorem Tab.at_ {w : World} {b : Nat} (h : Tab w b) (i : Nat) (hi : i < 56) (d : Nat) (hd : d < 3) : w.cell? ⟨b, i * 3 + d, none⟩ = (cmdV (cmdAt i))[d]? := by
 rw [Nat.mul_comm i 3, h.2 _ (by omega), flatV_at cmds i (by rw [cmds_len]; exact hi) d hd, cmdAt_get i hi]
theorem Tab.name {w : World} {b : Nat} (h : Tab w b) (i : Nat) (hi : i < 56) : w.cell? ⟨b, i * 3, none⟩ = some (.string ⟨(cmdAt i).name.toArray⟩) := h.at_ i hi 0 (by decide)
theorem Tab.ar {w : World} {b : Nat} (h : Tab w b) (i : Nat) (hi : i < 56) : w.cell? ⟨b, i * 3 + 1, none⟩ = some (.int .i64 (cmdAt i).ar) := h.at_ i hi 1 (by decide)
theorem Tab.ct {w : World} {b : Nat} (h : Tab w b) (i : Nat) (hi : i < 56) : w.cell? ⟨b, i * 3 + 2, none⟩ = some (.int .u16 ((cmdAt i).ct : Int)) := h.at_ i hi 2 (by decide)
def atV (id : Int) : Cmd := if 0 ≤ id ∧ id < 56 then cmdAt id.toNat else nil
def atB (id : Int) : Bool := decide (0 ≤ id ∧ id < 56)
def fitsB (id words : Int) : Bool := atB id && (if (atV id).ar < 0 then decide (-(atV id).ar ≤ words) else decide (words = (atV id).ar))
def findK (s : List UInt8) : Nat := cmds.findIdx fun c => decide (c.name = s)
theorem findK_le (s : List UInt8) : findK s ≤ 56 := by
 have := List.findIdx_le_length (xs := cmds) (p := fun c => decide (c.name = s))
 rwa [cmds_len] at this
theorem findK_at {s : List UInt8} {k : Nat} (hk : k < 56) (hle : k ≤ findK s) (h : (cmdAt k).name = s) : findK s = k := by
 unfold findK at hle ⊢
 apply Nat.le_antisymm
 · refine Nat.le_of_not_lt fun hlt => ?_
   have := List.not_of_lt_findIdx hlt
   rw [← cmdAt_get k hk] at this
   simp [h] at this
 · exact hle
theorem findK_next {s : List UInt8} {k : Nat} (hk : k < 56) (hle : k ≤ findK s) (h : (cmdAt k).name ≠ s) : k + 1 ≤ findK s := by
 refine Nat.succ_le_of_lt (Nat.lt_of_le_of_ne hle fun e => ?_)
 unfold findK at e
 have hlt : List.findIdx (fun c => decide (c.name = s)) cmds < cmds.length := by rw [← e, cmds_len]; exact hk
 have h2 := List.findIdx_getElem (w := hlt)
 simp only [← e] at h2
 rw [← cmdAt_get k hk] at h2
 exact h (by simpa using h2)
def findV (s : List UInt8) : Int := if findK s < 56 then (findK s : Int) else -1
def findB (s : List UInt8) : Bool := decide (findK s < 56)
theorem findV_at {s : List UInt8} {k : Nat} (hk : k < 56) (h : findK s = k) : findV s = (k : Int) ∧ findB s = true := by
 unfold findV findB
 rw [h, if_pos hk]
 exact ⟨rfl, decide_eq_true hk⟩
theorem findV_none {s : List UInt8} (h : 56 ≤ findK s) : findV s = -1 ∧ findB s = false := by
 unfold findV findB
 rw [if_neg (by omega)]
 exact ⟨rfl, decide_eq_false (by omega)⟩
def cats : List (List UInt8) := [[114, 101, 97, 100], [119, 114, 105, 116, 101], [107, 101, 121, 115, 112, 97, 99, 101], [115, 116, 114, 105, 110, 103], [108, 105, 115, 116], [104, 97, 115, 104], [115, 101, 116], [115, 111, 114, 116, 101, 100, 115, 101, 116], [112, 117, 98, 115, 117, 98], [99, 111, 110, 110, 101, 99, 116, 105, 111, 110], [116, 114, 97, 110, 115, 97, 99, 116, 105, 111, 110], [97, 100, 109, 105, 110]]
def allN : List UInt8 := [97, 108, 108]
def maskK (k : Nat) : Nat → Nat
  | 0 => 0
  | i + 1 => if k = 12 ∨ (cmdAt i).ct >>> k % 2 = 1 then maskK k i + 2 ^ i else maskK k i
theorem maskK_lt (k : Nat) : ∀ i, maskK k i < 2 ^ i
  | 0 => by simp [maskK]
  | i + 1 => by
    have := maskK_lt k i
    rw [maskK, Nat.pow_succ]
    split <;> omega
def catK (s : List UInt8) : Nat := (cats ++ [allN]).findIdx fun c => decide (c = s)
def catV (s : List UInt8) : Nat := if catK s < 13 then maskK (catK s) 56 else 0
def catB (s : List UInt8) : Bool := decide (catK s < 13)
theorem cats_len : cats.length = 12 := by decide
def names : List (List UInt8) := cats ++ [allN]
theorem names_len : names.length = 13 := by decide
theorem catK_le (s : List UInt8) : catK s ≤ 13 := by
 have := List.findIdx_le_length (xs := cats ++ [allN]) (p := fun c => decide (c = s))
 exact this
theorem catK_at {s : List UInt8} {k : Nat} (hk : k < 13) (hle : k ≤ catK s) (h : names[k]'(by rw [names_len]; exact hk) = s) : catK s = k := by
 unfold catK at hle ⊢
 apply Nat.le_antisymm
 · refine Nat.le_of_not_lt fun hlt => ?_
   have := List.not_of_lt_findIdx hlt
   have h' : (cats ++ [allN])[k]'(show k < (cats ++ [allN]).length from hk) = s := h
   exact absurd h' (by simpa using this)
 · exact hle
theorem catK_next {s : List UInt8} {k : Nat} (hk : k < 13) (hle : k ≤ catK s) (h : names[k]'(by rw [names_len]; exact hk) ≠ s) : k + 1 ≤ catK s := by
 refine Nat.succ_le_of_lt (Nat.lt_of_le_of_ne hle fun e => ?_)
 unfold catK at e
 have hlt : List.findIdx (fun c => decide (c = s)) (cats ++ [allN]) < (cats ++ [allN]).length := by rw [← e]; exact hk
 have h2 := List.findIdx_getElem (w := hlt)
 simp only [← e] at h2
 have h3 : (cats ++ [allN])[k]'(show k < (cats ++ [allN]).length from hk) = s := by simpa using h2
 exact h h3
theorem catV_at {s : List UInt8} {k : Nat} (hk : k < 13) (h : catK s = k) : catV s = maskK k 56 ∧ catB s = true := by
 unfold catV catB
 rw [h, if_pos hk]
 exact ⟨rfl, decide_eq_true hk⟩
theorem catV_none {s : List UInt8} (h : 13 ≤ catK s) : catV s = 0 ∧ catB s = false := by
 unfold catV catB
 rw [if_neg (by omega)]
 exact ⟨rfl, decide_eq_false (by omega)⟩
theorem maskK_yes (k i : Nat) (h : k = 12 ∨ (cmdAt i).ct >>> k % 2 = 1) : maskK k (i + 1) = maskK k i + 2 ^ i := if_pos h
theorem maskK_no (k i : Nat) (h : ¬ (k = 12 ∨ (cmdAt i).ct >>> k % 2 = 1)) : maskK k (i + 1) = maskK k i := if_neg h
theorem ct_small (i : Nat) (h : i < 56) : (cmdAt i).ct < 4096 := by
 have hall : ∀ c ∈ cmds, c.ct < 4096 := by decide
 rw [cmdAt_get i h]
 exact hall _ (List.getElem_mem _)
end Go.Proofs.YtpoinibckmbfcaaGreatDoor.TableMath
namespace Go.Proofs.YtpoinibckmbfcaaGreatDoor.Low
open Go.RowKit Kit
set_option linter.unusedVariables false
set_option maxRecDepth 100000
def lowByte (c : UInt8) : UInt8 := if 65 ≤ c.toNat ∧ c.toNat ≤ 90 then c + 32 else c
def lowL (l : List UInt8) : List UInt8 := l.map lowByte
def mixL (k : Nat) (l : List UInt8) : List UInt8 := lowL (l.take k) ++ l.drop k
theorem mixL_length (k : Nat) (l : List UInt8) : (mixL k l).length = l.length := by simp [mixL, lowL]; omega
theorem mixL_at (k : Nat) (l : List UInt8) (h : k < l.length) : (mixL k l)[k]'(by rw [mixL_length]; exact h) = l[k] := by
 unfold mixL lowL
 rw [List.getElem_append_right (by simp; omega)]
 simp [Nat.min_eq_left (Nat.le_of_lt h)]
theorem mixL_set (k : Nat) (l : List UInt8) (h : k < l.length) : (mixL k l).set k (lowByte l[k]) = mixL (k + 1) l := by
 unfold mixL lowL
 have e : (List.map lowByte (List.take k l)).length = k := by simp; omega
 rw [List.set_append_right _ _ (by omega), e, Nat.sub_self, List.drop_eq_getElem_cons h, List.set_cons_zero, List.take_succ_eq_append_getElem h, List.map_append]
 simp
theorem mixL_same (k : Nat) (l : List UInt8) (h : k < l.length) (hn : lowByte l[k] = l[k]) : mixL (k + 1) l = mixL k l := by
 rw [← mixL_set k l h, hn, ← mixL_at k l h, List.set_getElem_self]
theorem mixL_all (k : Nat) (l : List UInt8) (h : ¬ k < l.length) : mixL k l = lowL l := by
 unfold mixL
 rw [List.take_of_length_le (by omega), List.drop_eq_nil_of_le (by omega), List.append_nil]
theorem low_up {c : UInt8} (h1 : 65 ≤ c.toNat) (h2 : c.toNat ≤ 90) : ((lowByte c).toNat : Int) = (c.toNat : Int) + 97 - 65 := by
 unfold lowByte
 rw [if_pos ⟨h1, h2⟩, UInt8.toNat_add]
 have : (32 : UInt8).toNat = 32 := rfl
 omega
theorem low_not {c : UInt8} (h : ¬ (65 ≤ c.toNat ∧ c.toNat ≤ 90)) : lowByte c = c := if_neg h
end Go.Proofs.YtpoinibckmbfcaaGreatDoor.Low
namespace Go.Proofs.YtpoinibckmbfcaaGreatDoor.TableMath
open Go.RowKit Kit Low
set_option linter.unusedVariables false
set_option maxRecDepth 100000
def mk (k : Nat) : Nat := maskK k 56
def rw : Nat := mk 0 ||| mk 1
theorem name_letters (i : Nat) (h : i < 56) : (cmdAt i).name ≠ [] ∧ (cmdAt i).name.length ≤ 20 ∧ ∀ c ∈ (cmdAt i).name, 97 ≤ c.toNat ∧ c.toNat ≤ 122 := by
 have hall : cmds.all (fun c => decide (c.name ≠ []) && decide (c.name.length ≤ 20) && c.name.all fun x => decide (97 ≤ x.toNat) && decide (x.toNat ≤ 122)) = true := by decide +kernel
 rw [cmdAt_get i h]
 have := List.all_eq_true.1 hall _ (List.getElem_mem (by rw [cmds_len]; exact h))
 simp only [Bool.and_eq_true, decide_eq_true_eq, List.all_eq_true] at this
 exact ⟨this.1.1, this.1.2, this.2⟩
structure Mixed (N R : List UInt8) (k : Nat) : Prop where
 len : R.length = N.length
 low : lowL R = N
 rest : ∀ j, k ≤ j → R[j]? = N[j]?
theorem lowL_small {N : List UInt8} (h : ∀ c ∈ N, 97 ≤ c.toNat ∧ c.toNat ≤ 122) : lowL N = N := by
 unfold lowL
 conv => rhs; rw [← List.map_id N]
 refine List.map_congr_left fun c hc => ?_
 have := h c hc
 exact if_neg (by omega)
theorem Mixed.new {N : List UInt8} (h : ∀ c ∈ N, 97 ≤ c.toNat ∧ c.toNat ≤ 122) : Mixed N N 0 := ⟨rfl, lowL_small h, fun _ _ => rfl⟩
theorem cat_whole : catV [97, 108, 108] = 72057594037927935 ∧ catB [97, 108, 108] = true := by decide +kernel
end Go.Proofs.YtpoinibckmbfcaaGreatDoor.TableMath
namespace Go.Proofs.YtpoinibckmbfcaaGreatDoor.NumW
open Go.RowKit Kit
set_option maxRecDepth 100000
def okByte (c : UInt8) : Bool := decide (33 ≤ c.toNat) && decide (c.toNat ≤ 126)
def wordB (l : List UInt8) : Bool := l.all okByte && !l.isEmpty
theorem okByte_yes {c : UInt8} (h1 : 33 ≤ c.toNat) (h2 : c.toNat ≤ 126) : okByte c = true := by simp [okByte, h1, h2]
theorem all_snoc (s : ByteArray) (k : Nat) (h : k < s.size) (ha : (s.data.toList.take k).all okByte = true) (h1 : 33 ≤ s[k].toNat) (h2 : s[k].toNat ≤ 126) : (s.data.toList.take (k + 1)).all okByte = true := by
 rw [take_snoc s k h, List.all_append, ha]
 simp [okByte_yes h1 h2]
theorem word_no (s : ByteArray) (k : Nat) (h : k < s.size) (hb : ¬ (33 ≤ s[k].toNat ∧ s[k].toNat ≤ 126)) : wordB s.data.toList = false := by
 have hm : s[k] ∈ s.data.toList := by
  have : s[k] = s.data.toList[k]'(by simpa using h) := rfl
  rw [this]; exact List.getElem_mem _
 have : s.data.toList.all okByte = false := by
  rw [List.all_eq_false]
  refine ⟨_, hm, ?_⟩
  simp [okByte]
  omega
 simp [wordB, this]
set_option maxHeartbeats 400000 in
theorem word_any (s : ByteArray) (w : World) (hs : s.size ≤ maxLen) :
  Calls Tryz.prog 35 #[.string s] w fun e w' => e = .returned (.bool (wordB s.data.toList)) ∧ w = w' := by
 unfold maxLen at hs
 go_enter Tryz.func35, Tryz.ntmps35
 go_wp2
 go_loop [3] (fun i => ∃ k : Nat, k ≤ s.size ∧ i = .int .i64 k ∧ (s.data.toList.take k).all okByte = true) (fun i => s.size - (intOf i).toNat)
 case atStart => exact ⟨0, Nat.zero_le _, rfl, rfl⟩
 case round =>
  obtain ⟨k, hk, rfl, hall⟩ := hrel
  have HA := hall
  have HAh : Hid ((s.data.toList.take k).all okByte = true) := HA
  clear hall HA
  by_cases hlt : k < s.size
  · by_cases h1 : 33 ≤ s[k].toNat
    · by_cases h2 : s[k].toNat ≤ 126
      · go_wp2
        go_round
        case rel => exact ⟨k + 1, by omega, by go_num, all_snoc s k hlt HAh.out h1 h2⟩
        case measure => simp [intOf]; omega
      · have HN : Hid (wordB s.data.toList = false) := word_no s k hlt (by omega)
        go_wp2
        go_ret
        exact ⟨ret_bool HN.out.symm, rfl⟩
    · have HN : Hid (wordB s.data.toList = false) := word_no s k hlt (by omega)
      go_wp2
      go_ret
      exact ⟨ret_bool HN.out.symm, rfl⟩
  · have HN : Hid (wordB s.data.toList = !s.data.toList.isEmpty) := by
     have e : s.data.toList.take k = s.data.toList := List.take_of_length_le (by simp; omega)
     have := HAh.out
     rw [e] at this
     show wordB _ = _
     simp [wordB, this]
    go_wp2
    go_ret
    exact ⟨ret_bool (by rw [HN.out, ByteArray.toList_eq]), rfl⟩
def lowByte (c : UInt8) : UInt8 := if 65 ≤ c.toNat ∧ c.toNat ≤ 90 then c + 32 else c
def lowL (l : List UInt8) : List UInt8 := l.map lowByte
def mixL (k : Nat) (l : List UInt8) : List UInt8 := lowL (l.take k) ++ l.drop k
theorem mixL_length (k : Nat) (l : List UInt8) : (mixL k l).length = l.length := by simp [mixL, lowL]; omega
theorem mixL_at (k : Nat) (l : List UInt8) (h : k < l.length) : (mixL k l)[k]'(by rw [mixL_length]; exact h) = l[k] := by
 unfold mixL lowL
 rw [List.getElem_append_right (by simp; omega)]
 simp [Nat.min_eq_left (Nat.le_of_lt h)]
theorem mixL_set (k : Nat) (l : List UInt8) (h : k < l.length) : (mixL k l).set k (lowByte l[k]) = mixL (k + 1) l := by
 unfold mixL lowL
 have e : (List.map lowByte (List.take k l)).length = k := by simp; omega
 rw [List.set_append_right _ _ (by omega), e, Nat.sub_self, List.drop_eq_getElem_cons h, List.set_cons_zero, List.take_succ_eq_append_getElem h, List.map_append]
 simp
theorem mixL_same (k : Nat) (l : List UInt8) (h : k < l.length) (hn : lowByte l[k] = l[k]) : mixL (k + 1) l = mixL k l := by
 rw [← mixL_set k l h, hn, ← mixL_at k l h, List.set_getElem_self]
theorem mixL_all (k : Nat) (l : List UInt8) (h : ¬ k < l.length) : mixL k l = lowL l := by
 unfold mixL
 rw [List.take_of_length_le (by omega), List.drop_eq_nil_of_le (by omega), List.append_nil]
theorem low_up {c : UInt8} (h1 : 65 ≤ c.toNat) (h2 : c.toNat ≤ 90) : ((lowByte c).toNat : Int) = (c.toNat : Int) + 97 - 65 := by
 unfold lowByte
 rw [if_pos ⟨h1, h2⟩, UInt8.toNat_add]
 have : (32 : UInt8).toNat = 32 := rfl
 omega
theorem low_not {c : UInt8} (h : ¬ (65 ≤ c.toNat ∧ c.toNat ≤ 90)) : lowByte c = c := if_neg h
end Go.Proofs.YtpoinibckmbfcaaGreatDoor.NumW
namespace Go.Proofs.YtpoinibckmbfcaaGreatDoor.ShaMath
open Go
def rot (x n : Nat) : Nat := x / 2 ^ n + x * 2 ^ (32 - n) % 4294967296
theorem shl_split (x n : Nat) (hn : n ≤ 32) : x * 2 ^ (32 - n) % 4294967296 = 2 ^ (32 - n) * (x % 2 ^ n) := by
 have h : 4294967296 = 2 ^ (32 - n) * 2 ^ n := by rw [← Nat.pow_add, show 32 - n + n = 32 by omega]
 rw [Nat.mul_comm x, h, Nat.mul_mod_mul_left]
theorem div_lt_pow (x n : Nat) (hx : x < 4294967296) (hn : n ≤ 32) : x / 2 ^ n < 2 ^ (32 - n) := by
 have h : 4294967296 = 2 ^ (32 - n) * 2 ^ n := by rw [← Nat.pow_add, show 32 - n + n = 32 by omega]
 rw [Nat.div_lt_iff_lt_mul (Nat.two_pow_pos n), ← h]
 exact hx
theorem rot_or (x n : Nat) (hx : x < 4294967296) (hn : n ≤ 32) : x / 2 ^ n ||| x * 2 ^ (32 - n) % 4294967296 = rot x n := by
 unfold rot
 rw [shl_split x n hn, Nat.or_comm, ← Nat.two_pow_add_eq_or_of_lt (div_lt_pow x n hx hn), Nat.add_comm]
theorem rot_lt (x n : Nat) (hx : x < 4294967296) (hn : n ≤ 32) : rot x n < 4294967296 := by
 rw [← rot_or x n hx hn]
 have h1 : x / 2 ^ n < 2 ^ 32 := Nat.lt_of_le_of_lt (Nat.div_le_self _ _) hx
 have h2 : x * 2 ^ (32 - n) % 4294967296 < 2 ^ 32 := Nat.mod_lt _ (by decide)
 exact Nat.or_lt_two_pow h1 h2
theorem xor_lt (x y : Nat) (hx : x < 4294967296) (hy : y < 4294967296) : x ^^^ y < 4294967296 := Nat.xor_lt_two_pow (n := 32) hx hy
theorem and_lt (x y : Nat) (hx : x < 4294967296) : x &&& y < 4294967296 := Nat.lt_of_le_of_lt Nat.and_le_left hx
theorem or_lt (x y : Nat) (hx : x < 4294967296) (hy : y < 4294967296) : x ||| y < 4294967296 := Nat.or_lt_two_pow (n := 32) hx hy
def pick (e f g : Nat) : Nat := (e &&& f) ||| ((4294967295 - e) &&& g)
theorem not_and (e f g : Nat) (he : e < 4294967296) : (e &&& f) &&& ((4294967295 - e) &&& g) = 0 := by
 apply Nat.eq_of_testBit_eq
 intro i
 have h : (4294967295 - e).testBit i = (decide (i < 32) && !e.testBit i) := by
  have := Nat.testBit_two_pow_sub_succ (n := 32) (x := e) (by simpa using he) i
  rw [← this]
  congr 1
  omega
 simp only [Nat.testBit_and, h, Nat.zero_testBit]
 cases e.testBit i <;> simp
theorem add_or (x y : Nat) (hx : x < 4294967296) (hy : y < 4294967296) (h : x &&& y = 0) : x + y = x ||| y := by
 have h0 : BitVec.ofNat 33 x &&& BitVec.ofNat 33 y = 0#33 := by
  apply BitVec.eq_of_toNat_eq
  simp only [BitVec.toNat_and, BitVec.toNat_ofNat]
  rw [Nat.mod_eq_of_lt (by omega), Nat.mod_eq_of_lt (by omega), h]
 have h1 := congrArg BitVec.toNat (BitVec.add_eq_or_of_and_eq_zero _ _ h0)
 simp only [BitVec.toNat_add, BitVec.toNat_or, BitVec.toNat_ofNat] at h1
 rw [Nat.mod_eq_of_lt (a := x) (by omega), Nat.mod_eq_of_lt (a := y) (by omega), Nat.mod_eq_of_lt (by omega)] at h1
 exact h1
theorem pick_add (e f g : Nat) (he : e < 4294967296) (hg : g < 4294967296) : (e &&& f) + ((4294967295 - e) &&& g) = pick e f g :=
 add_or _ _ (and_lt _ _ he) (Nat.lt_of_le_of_lt Nat.and_le_right hg) (not_and e f g he)
def most (a b c : Nat) : Nat := (a &&& b) ||| (a &&& c) ||| (b &&& c)
theorem pick_lt (e f g : Nat) (he : e < 4294967296) (hg : g < 4294967296) : pick e f g < 4294967296 :=
 or_lt _ _ (and_lt _ _ he) (Nat.lt_of_le_of_lt Nat.and_le_right hg)
theorem most_lt (a b c : Nat) (ha : a < 4294967296) (hb : b < 4294967296) : most a b c < 4294967296 :=
 or_lt _ _ (or_lt _ _ (and_lt _ _ ha) (and_lt _ _ ha)) (and_lt _ _ hb)
structure W8 where
 a : Nat
 b : Nat
 c : Nat
 d : Nat
 e : Nat
 f : Nat
 g : Nat
 h : Nat
def W8.get (s : W8) : Nat → Nat
  | 0 => s.a
  | 1 => s.b
  | 2 => s.c
  | 3 => s.d
  | 4 => s.e
  | 5 => s.f
  | 6 => s.g
  | _ => s.h
structure W8.Ok (s : W8) : Prop where
 a : s.a < 4294967296
 b : s.b < 4294967296
 c : s.c < 4294967296
 d : s.d < 4294967296
 e : s.e < 4294967296
 f : s.f < 4294967296
 g : s.g < 4294967296
 h : s.h < 4294967296
theorem W8.Ok.get {s : W8} (h : s.Ok) (j : Nat) : s.get j < 4294967296 := by
 unfold W8.get
 split
 · exact h.a
 · exact h.b
 · exact h.c
 · exact h.d
 · exact h.e
 · exact h.f
 · exact h.g
 · exact h.h
def bigE (e : Nat) : Nat := rot e 6 ^^^ rot e 11 ^^^ rot e 25
def bigA (a : Nat) : Nat := rot a 2 ^^^ rot a 13 ^^^ rot a 22
def smallX (x : Nat) : Nat := rot x 7 ^^^ rot x 18 ^^^ x / 8
def smallY (x : Nat) : Nat := rot x 17 ^^^ rot x 19 ^^^ x / 1024
theorem bigE_lt (e : Nat) (h : e < 4294967296) : bigE e < 4294967296 := xor_lt _ _ (xor_lt _ _ (rot_lt _ _ h (by decide)) (rot_lt _ _ h (by decide))) (rot_lt _ _ h (by decide))
theorem bigA_lt (e : Nat) (h : e < 4294967296) : bigA e < 4294967296 := xor_lt _ _ (xor_lt _ _ (rot_lt _ _ h (by decide)) (rot_lt _ _ h (by decide))) (rot_lt _ _ h (by decide))
theorem smallX_lt (e : Nat) (h : e < 4294967296) : smallX e < 4294967296 := xor_lt _ _ (xor_lt _ _ (rot_lt _ _ h (by decide)) (rot_lt _ _ h (by decide))) (by omega)
theorem smallY_lt (e : Nat) (h : e < 4294967296) : smallY e < 4294967296 := xor_lt _ _ (xor_lt _ _ (rot_lt _ _ h (by decide)) (rot_lt _ _ h (by decide))) (by omega)
def tt (s : W8) (kw : Nat) : Nat := (s.h + bigE s.e + pick s.e s.f s.g + kw) % 4294967296
def uu (s : W8) : Nat := (bigA s.a + most s.a s.b s.c) % 4294967296
def rnd (s : W8) (kw : Nat) : W8 := ⟨(tt s kw + uu s) % 4294967296, s.a, s.b, s.c, (s.d + tt s kw) % 4294967296, s.e, s.f, s.g⟩
theorem tt_lt (s : W8) (kw : Nat) : tt s kw < 4294967296 := Nat.mod_lt _ (by decide)
theorem uu_lt (s : W8) : uu s < 4294967296 := Nat.mod_lt _ (by decide)
theorem rnd_ok {s : W8} (h : s.Ok) (kw : Nat) : (rnd s kw).Ok := ⟨Nat.mod_lt _ (by decide), h.a, h.b, h.c, Nat.mod_lt _ (by decide), h.e, h.f, h.g⟩
def H0 : W8 := ⟨1779033703, 3144134277, 1013904242, 2773480762, 1359893119, 2600822924, 528734635, 1541459225⟩
def Kt : List Nat := [1116352408, 1899447441, 3049323471, 3921009573, 961987163, 1508970993, 2453635748, 2870763221, 3624381080, 310598401, 607225278, 1426881987, 1925078388, 2162078206, 2614888103, 3248222580, 3835390401, 4022224774, 264347078, 604807628, 770255983, 1249150122, 1555081692, 1996064986, 2554220882, 2821834349, 2952996808, 3210313671, 3336571891, 3584528711, 113926993, 338241895, 666307205, 773529912, 1294757372, 1396182291, 1695183700, 1986661051, 2177026350, 2456956037, 2730485921, 2820302411, 3259730800, 3345764771, 3516065817, 3600352804, 4094571909, 275423344, 430227734, 506948616, 659060556, 883997877, 958139571, 1322822218, 1537002063, 1747873779, 1955562222, 2024104815, 2227730452, 2361852424, 2428436474, 2756734187, 3204031479, 3329325298]
def kAt (i : Nat) : Nat := Kt.getD i 0
theorem kAt_lt (i : Nat) : kAt i < 4294967296 := by
 by_cases h : i < 64
 · exact (show ∀ i, i < 64 → kAt i < 4294967296 by decide +kernel) i h
 · unfold kAt
   rw [List.getD_eq_getElem?_getD, List.getElem?_eq_none (by show Kt.length ≤ i; rw [show Kt.length = 64 by decide]; omega)]
   decide
def byte (l : List UInt8) (j : Nat) : Nat := (l.getD j 0).toNat
theorem byte_lt (l : List UInt8) (j : Nat) : byte l j < 256 := UInt8.toNat_lt _
def word (l : List UInt8) (i : Nat) : Nat := byte l (4 * i) * 16777216 + byte l (4 * i + 1) * 65536 + byte l (4 * i + 2) * 256 + byte l (4 * i + 3)
theorem word_lt (l : List UInt8) (i : Nat) : word l i < 4294967296 := by
 unfold word
 have h0 := byte_lt l (4 * i)
 have h1 := byte_lt l (4 * i + 1)
 have h2 := byte_lt l (4 * i + 2)
 have h3 := byte_lt l (4 * i + 3)
 omega
def wNext (p : List Nat) (i : Nat) : Nat := (smallX (p.getD (i + 1) 0) + p.getD (i + 9) 0 + smallY (p.getD (i + 14) 0) + p.getD i 0) % 4294967296
def sched (l : List UInt8) : Nat → List Nat
  | 0 => (List.range 16).map (word l)
  | i + 1 => sched l i ++ [wNext (sched l i) i]
def wAt (l : List UInt8) (j : Nat) : Nat := (sched l 48).getD j 0
theorem sched_length (l : List UInt8) : ∀ i, (sched l i).length = 16 + i
  | 0 => by simp [sched]
  | i + 1 => by simp [sched, sched_length l i]; omega
theorem sched_keep (l : List UInt8) (j : Nat) : ∀ i k, j < 16 + i → (sched l (i + k)).getD j 0 = (sched l i).getD j 0
  | _, 0, _ => rfl
  | i, k + 1, h => by
    rw [← Nat.add_assoc]
    show (sched l (i + k) ++ [_]).getD j 0 = _
    rw [List.getD_eq_getElem?_getD, List.getElem?_append_left (by rw [sched_length]; omega), ← List.getD_eq_getElem?_getD, sched_keep l j i k h]
theorem sched_part (l : List UInt8) (j i m : Nat) (h : j < 16 + i) (hm : i ≤ m) : (sched l m).getD j 0 = (sched l i).getD j 0 := by
 obtain ⟨k, rfl⟩ : ∃ k, m = i + k := ⟨m - i, by omega⟩
 exact sched_keep l j i k h
theorem sched_first (l : List UInt8) (j : Nat) (h : j < 16) : (sched l 0).getD j 0 = word l j := by
 simp [sched, h]
theorem sched_succ (l : List UInt8) (i : Nat) : sched l (i + 1) = sched l i ++ [wNext (sched l i) i] := by rw [sched]
theorem sched_last (l : List UInt8) (i : Nat) : (sched l (i + 1)).getD (i + 16) 0 = wNext (sched l i) i := by
 rw [sched_succ, List.getD_eq_getElem?_getD, List.getElem?_append_right (by rw [sched_length]; omega), sched_length, show i + 16 - (16 + i) = 0 by omega, List.getElem?_cons_zero, Option.getD_some]
theorem wAt_first (l : List UInt8) (j : Nat) (h : j < 16) : wAt l j = word l j :=
 (sched_part l j 0 48 (by omega) (by omega)).trans (sched_first l j h)
theorem wAt_of (l : List UInt8) (i j : Nat) (h : i < 48) (hj : j < 16 + i) : (sched l i).getD j 0 = wAt l j :=
 (sched_part l j i 48 hj (by omega)).symm
theorem wAt_next (l : List UInt8) (i : Nat) (h : i < 48) : wAt l (i + 16) = (smallX (wAt l (i + 1)) + wAt l (i + 9) + smallY (wAt l (i + 14)) + wAt l i) % 4294967296 := by
 refine (sched_part l (i + 16) (i + 1) 48 (by omega) (by omega)).trans ((sched_last l i).trans ?_)
 unfold wNext
 rw [wAt_of l i _ h (by omega), wAt_of l i _ h (by omega), wAt_of l i _ h (by omega), wAt_of l i _ h (by omega)]
theorem wAt_lt (l : List UInt8) (j : Nat) (h : j < 64) : wAt l j < 4294967296 := by
 by_cases hj : j < 16
 · rw [wAt_first l j hj]; exact word_lt l j
 · obtain ⟨i, rfl⟩ : ∃ i, j = i + 16 := ⟨j - 16, by omega⟩
   rw [wAt_next l i (by omega)]
   exact Nat.mod_lt _ (by decide)
def kw (l : List UInt8) (i : Nat) : Nat := (kAt i + wAt l i) % 4294967296
def rounds (s : W8) (l : List UInt8) : Nat → W8
  | 0 => s
  | i + 1 => rnd (rounds s l i) (kw l i)
theorem rounds_succ (s : W8) (l : List UInt8) (i : Nat) : rounds s l (i + 1) = rnd (rounds s l i) (kw l i) := by rw [rounds]
theorem rounds_ok {s : W8} (h : s.Ok) (l : List UInt8) : ∀ i, (rounds s l i).Ok
  | 0 => h
  | i + 1 => rnd_ok (rounds_ok h l i) _
def addW (s r : W8) : W8 := ⟨(s.a + r.a) % 4294967296, (s.b + r.b) % 4294967296, (s.c + r.c) % 4294967296, (s.d + r.d) % 4294967296, (s.e + r.e) % 4294967296, (s.f + r.f) % 4294967296, (s.g + r.g) % 4294967296, (s.h + r.h) % 4294967296⟩
theorem addW_get (s r : W8) (j : Nat) : (addW s r).get j = (s.get j + r.get j) % 4294967296 := by
 unfold W8.get
 split <;> rfl
theorem addW_ok (s r : W8) : (addW s r).Ok := ⟨Nat.mod_lt _ (by decide), Nat.mod_lt _ (by decide), Nat.mod_lt _ (by decide), Nat.mod_lt _ (by decide), Nat.mod_lt _ (by decide), Nat.mod_lt _ (by decide), Nat.mod_lt _ (by decide), Nat.mod_lt _ (by decide)⟩
def blk (s : W8) (l : List UInt8) : W8 := addW s (rounds s l 64)
theorem blk_ok (s : W8) (l : List UInt8) : (blk s l).Ok := addW_ok _ _
def after (l : List UInt8) : Nat → W8
  | 0 => H0
  | k + 1 => blk (after l k) (l.drop (64 * k))
theorem H0_ok : H0.Ok := ⟨by decide, by decide, by decide, by decide, by decide, by decide, by decide, by decide⟩
theorem after_ok (l : List UInt8) : ∀ k, (after l k).Ok
  | 0 => H0_ok
  | _ + 1 => blk_ok _ _
theorem word_same {l r : List UInt8} (h : ∀ j, j < 64 → byte l j = byte r j) (i : Nat) (hi : i < 16) : word l i = word r i := by
 unfold word
 rw [h _ (by omega), h _ (by omega), h _ (by omega), h _ (by omega)]
theorem sched_same {l r : List UInt8} (h : ∀ j, j < 64 → byte l j = byte r j) : ∀ i, sched l i = sched r i
  | 0 => by
    unfold sched
    apply List.map_congr_left
    intro i hi
    exact word_same h i (List.mem_range.1 hi)
  | i + 1 => by
    unfold sched
    rw [sched_same h i]
theorem wAt_same {l r : List UInt8} (h : ∀ j, j < 64 → byte l j = byte r j) (i : Nat) : wAt l i = wAt r i :=
 congrArg (fun x => x.getD i 0) (sched_same h 48)
theorem rounds_same {l r : List UInt8} (h : ∀ j, j < 64 → byte l j = byte r j) (s : W8) : ∀ i, rounds s l i = rounds s r i
  | 0 => rfl
  | i + 1 => by
    unfold rounds kw
    rw [rounds_same h s i, wAt_same h i]
theorem blk_same {l r : List UInt8} (h : ∀ j, j < 64 → byte l j = byte r j) (s : W8) : blk s l = blk s r := by
 unfold blk
 rw [rounds_same h s 64]
def be8 (n : Nat) : List UInt8 := (List.range 8).map fun i => UInt8.ofNat (n / 2 ^ (8 * (7 - i)) % 256)
def gap (n : Nat) : Nat := (119 - n % 64) % 64
def padded (l : List UInt8) : List UInt8 := l ++ [128] ++ List.replicate (gap l.length) 0 ++ be8 (8 * l.length)
theorem be8_length (n : Nat) : (be8 n).length = 8 := by simp [be8]
theorem padded_length (l : List UInt8) : (padded l).length = l.length + 9 + gap l.length := by
 simp [padded, be8_length]; omega
def sumW (l : List UInt8) : W8 := after (padded l) ((padded l).length / 64)
end Go.Proofs.YtpoinibckmbfcaaGreatDoor.ShaMath
