/-
  bytes.IndexAny and bytes.ContainsAny at the two bytes of a line's end: the walks.
-/
import Derived.Test.YteojijocoamohaaDoorBytesAny
import Derived.Deep.LoopGhost
import Derived.Laws.Runes
namespace Go.Proofs.YteojijocoamohaaDoor.BytesA
open Go.RowKit Kit BytesIn ReplyMath ReplyT
set_option linter.unusedVariables false
set_option maxRecDepth 100000

structure Two (S : ByteArray) : Prop where
  sz : S.size = 2
  emp : S.toList.isEmpty = false
  ls : S.data.toList = [13, 10]
  low : ∀ (i : Nat) (h : i < S.size), S[i] = 13 ∨ S[i] = 10
theorem two_of {S : ByteArray} (h : S.data.toList = [13, 10]) : Two S := by
  have hsz : S.size = 2 := by have := Lib.size_eq S; rw [h] at this; exact this
  refine ⟨hsz, by rw [Lib.toList_data, h]; rfl, h, fun i hi => ?_⟩
  have h1 : S.data.toList[i]? = some S[i] := Lib.data_getElem? S i hi
  rw [h] at h1
  match i, hi, h1 with
  | 0, _, h1 => left; simpa using h1.symm
  | 1, _, h1 => right; simpa using h1.symm
  | i + 2, hi, _ => omega

set_option maxHeartbeats 1000000 in
theorem idx_one (S : ByteArray) (hS : S.data.toList = [13, 10]) (p : Option Addr) (l : List UInt8) (n c : Nat) (w : World) (hn : l.length = n) (hb : Bs w p l) (hc : n ≤ c) (h1 : n = 1) :
    Calls Tryd.prog 52 #[.slice p n c, .string S] w (IdxP l w) := by
  subst h1
  obtain ⟨x, rfl⟩ : ∃ x, l = [x] := List.length_eq_one_iff.1 hn
  obtain ⟨b, off, rfl, hlt, hcl⟩ := hb (by simp)
  have hcell : w.cell? ⟨b, off, none⟩ = some (.int .u8 (x.toNat : Int)) := hcl 0 (by simp)
  have HT := Lib.hid (two_of hS)
  have hsz := HT.out.sz
  have hemp := HT.out.emp
  clear hb hn
  by_cases hx : 128 ≤ x.toNat
  · have HX := Lib.hid (fun W hb => idx_none (w := w) (w' := W) (l := [x]) (by simp [clean, high_ne hx]) hb)
    have hd : (128 : Int) ≤ (x.toNat : Int) := by omega
    have hx255 := x.toNat_lt
    clear hS hcl
    go_enter Tryd.func52, Tryd.ntmps52
    go_wp2_with fail
    go_loopg [5] 2 (fun g _ wx => ∃ i : Nat, i + g = 2 ∧ wx = w.iter S i)
    case atStart => exact ⟨0, by omega, rfl⟩
    case round =>
      obtain ⟨i, hig, rfl⟩ := hrel
      cases gk with
      | zero =>
        obtain rfl : i = 2 := by omega
        have hnx := fun ty => run_next_end (P := Tryd.prog) w S 2 ty (by omega)
        go_wp2_with fail
        go_ret
        exact HX.out _ ((Below.refl _ _).alloc (Nat.le_refl _) _)
      | succ g =>
        have hi : i < S.size := by omega
        have hlow := HT.out.low i hi
        obtain ⟨y, hy⟩ : ∃ y, y = S[i] := ⟨_, rfl⟩
        have h128 : y.toNat < 128 := by rw [hy]; rcases hlow with h | h <;> (rw [h]; decide)
        have hnx := fun ty => run_next_ascii (P := Tryd.prog) w S i ty hi (by rw [← hy]; exact h128)
        rw [← hy] at hnx
        have t1 : ((y.toNat : Int) == 65533) = false := by rw [beq_eq_false_iff_ne]; omega
        clear hlow hy
        go_wp2_with fail
        go_roundg g
        case measure => omega
        case rel => exact ⟨i + 1, by omega, rfl⟩
  · have hd : ¬ ((128 : Int) ≤ (x.toNat : Int)) := by omega
    by_cases h13 : x = 13 ∨ x = 10
    · obtain ⟨v, hv0, hv⟩ := byte_yes S hS x h13
      have HX := Lib.hid (idx_at (w := w) (w' := w) (l := [x]) 0 (by simp) h13 (Below.refl _ _))
      clear hS hcl h13
      go_enter Tryd.func52, Tryd.ntmps52
      go_wp2_with fail
      go_ret
      exact HX.out
    · have hv := byte_no S hS x (fun h => h13 (Or.inl h)) (fun h => h13 (Or.inr h))
      have HX := Lib.hid (idx_none (w := w) (w' := w) (l := [x]) (by simp only [not_or] at h13; simp [clean, h13]) (Below.refl _ _))
      clear hS hcl h13
      go_enter Tryd.func52, Tryd.ntmps52
      go_wp2_with fail
      go_ret
      exact HX.out

set_option maxHeartbeats 4000000 in
theorem idx_short (S : ByteArray) (hS : S.data.toList = [13, 10]) (p : Option Addr) (l : List UInt8) (n c : Nat) (w : World) (hn : l.length = n) (hb : Bs w p l) (hc : n ≤ c) (h1 : n ≠ 1) (h8 : n ≤ 8) (hu : Ut w) :
    Calls Tryd.prog 52 #[.slice p n c, .string S] w (IdxP l w) := by
  have HT := Lib.hid (two_of hS)
  have hsz := HT.out.sz
  have hemp := HT.out.emp
  have HN := Lib.hid hn
  have HB := Lib.hid hb
  have HU := Lib.hid hu
  have d1 : ((n : Int) == 1) = false := beq_eq_false_iff_ne.2 (by omega)
  have d2 : decide ((8 : Int) < (n : Int)) = false := decide_eq_false (by omega)
  have d3 : ((S.size : Int) == 1) = false := beq_eq_false_iff_ne.2 (by omega)
  clear hS hb hn hu
  go_enter Tryd.func52, Tryd.ntmps52
  go_wp2_with (go_at_call 63; with_reducible refine (should_any _ _).mono ?_; rintro e w' ⟨rfl, hw'⟩; rw [hw']; clear hw')
  clear d1 d2 d3 hemp
  go_loopw [11, 12] (fun _ i wr => ∃ k : Nat, k ≤ n ∧ i = .int .i64 k ∧ Below w.heap.size w wr ∧ Hid (clean (l.take k) = true)) (fun _ i _ => n - (intOf i).toNat)
  case atStart => exact ⟨0, Nat.zero_le _, rfl, Below.refl _ _, Lib.hid rfl⟩
  case round =>
    obtain ⟨k, hk, rfl, hb, HCl⟩ := hrel
    have HBr := Lib.hid hb
    have hbs := hb.size
    by_cases hlk : k < n
    · have hkl : k < l.length := by rw [HN.out]; exact hlk
      obtain ⟨b, off, rfl, hlt, hcl⟩ := (HB.out.keep hb) (by omega)
      obtain ⟨x, hx⟩ : ∃ x, x = l[k] := ⟨_, rfl⟩
      have hcell : wr.cell? ⟨b, off + k, none⟩ = some (.int .u8 (x.toNat : Int)) := by rw [hx]; exact hcl k hkl
      have hx255 := x.toNat_lt
      by_cases h128 : 128 ≤ x.toNat
      · obtain ⟨hw1, hw2, hw4, hcl2, hr0, hr1⟩ := dec_next l k hkl (by rw [← hx]; exact h128) HCl.out
        have hsh := dec_shape l k hkl (by rw [← hx]; exact h128)
        have CD := Lib.hid (dec_call b off (c - k) k n l wr HN.out hlk hcl (HU.out.keep hb))
        obtain ⟨r, hr⟩ : ∃ r, r = (dec l k).1 := ⟨_, rfl⟩
        obtain ⟨wd, hwd⟩ : ∃ wd, wd = (dec l k).2 := ⟨_, rfl⟩
        have hty : (wd = 2 ∧ r < 2048) ∨ (wd ≠ 2 ∧ r = 65533) ∨ (wd ≠ 2 ∧ r ≠ 65533 ∧ 3 ≤ wd ∧ (Utf8.encode (r : Int)).size = wd) := by
          rw [hr, hwd]
          rcases hsh with h | h | h | h
          · obtain ⟨-, -, -, h1, h2⟩ := h
            exact Or.inl ⟨h2, h1⟩
          · obtain ⟨-, -, -, -, h1, h2, h3, h4⟩ := h
            by_cases e : (dec l k).1 = 65533
            · exact Or.inr (Or.inl ⟨by omega, e⟩)
            · exact Or.inr (Or.inr ⟨by omega, e, by omega, by rw [enc_size _ h1 (by omega) h3, if_pos h2, h4]⟩)
          · obtain ⟨-, -, -, -, -, -, h1, h2, h4⟩ := h
            exact Or.inr (Or.inr ⟨by omega, by omega, by omega, by rw [enc_size _ (by omega) h2 (by omega), if_neg (by omega), h4]⟩)
          · rw [h]
            exact Or.inr (Or.inl ⟨by decide, rfl⟩)
        rw [← hr] at CD hr0 hr1
        rw [← hwd] at CD hw1 hw2 hw4 hcl2
        rw [HN.out] at hw2
        have HCl2 := Lib.hid hcl2
        have q1 : ∀ W, (Instr.slice 23 (.slice (some ⟨b, off, none⟩) n c) (some (.int .i64 (k : Int))) none none).run Tryd.prog W = .ok (.slice (some ⟨b, off + k, none⟩) (n - k) (c - k)) W := fun W => by
          have h1 := sl_l (some ⟨b, off, none⟩) n c k hk W
          rw [show ReplyT.partAt (some ⟨b, off, none⟩) c k = some ⟨b, off + k, none⟩ by unfold ReplyT.partAt; rw [if_neg (by omega)]; simp [Addr.add_lit]] at h1
          exact h1
        have hd : ¬ ((x.toNat : Int) < 128) := by omega
        have e1 : IntKind.i64.wrap ((k : Int) + (wd : Int)) = (k : Int) + (wd : Int) := IntWalk.i64_in _ (by omega)
        clear hsh hx hcl hcl2 hr hwd hb
        go_wp2_with fail
        refine CD.out.mono ?_
        rintro e w2 ⟨rfl, hb2⟩
        have HB2 := Lib.hid (HBr.out.trans (hb2.mono hbs))
        obtain ⟨m, hm⟩ := (HU.out.keep HB2.out).mx
        clear hb2 q1
        rcases hty with ⟨hw, hr2⟩ | ⟨hw, hr2⟩ | ⟨hw, hr2, hw3, hT⟩
        · subst hw
          have t1 : ((r : Int) != 65533) = true := by rw [bne_iff_ne]; omega
          have t2 := enc_ne r hr0 hr2 S HT.out.ls
          go_wp2_with fail
          go_roundw
          case rel => exact ⟨k + 2, by omega, by go_num, HB2.out, HCl2⟩
          case measure => simp [intOf]; omega
        · have t1' : ((r : Int) != 65533) = false := by rw [bne_eq_false_iff_eq]; omega
          go_wp2_with fail
          go_loopg [15] 2 (fun g _ wx => ∃ i : Nat, i + g = 2 ∧ wx = w2.iter S i)
          case atStart => exact ⟨0, by omega, rfl⟩
          case round =>
            obtain ⟨i, hig, rfl⟩ := hrel
            cases gk with
            | zero =>
              obtain rfl : i = 2 := by omega
              have hnx := fun ty => run_next_end (P := Tryd.prog) w2 S 2 ty (by omega)
              go_wp2_with fail
              go_roundw
              case rel => exact ⟨k + wd, by omega, by go_num, HB2.out.alloc HB2.out.size _, HCl2⟩
              case measure => simp [intOf]; omega
            | succ g =>
              have hi : i < S.size := by omega
              have hlow := HT.out.low i hi
              obtain ⟨y, hy⟩ : ∃ y, y = S[i] := ⟨_, rfl⟩
              have h128 : y.toNat < 128 := by rw [hy]; rcases hlow with h | h <;> (rw [h]; decide)
              have hnx := fun ty => run_next_ascii (P := Tryd.prog) w2 S i ty hi (by rw [← hy]; exact h128)
              rw [← hy] at hnx
              have t1 : ((r : Int) == (y.toNat : Int)) = false := by rw [beq_eq_false_iff_ne]; omega
              clear hlow hy
              go_wp2_with fail
              go_roundg g
              case measure => omega
              case rel => exact ⟨i + 1, by omega, rfl⟩
        · have t1' : ((r : Int) != 65533) = true := by rw [bne_iff_ne]; omega
          have t2 : ((2 : Int) == (wd : Int)) = false := by rw [beq_eq_false_iff_ne]; omega
          by_cases hle : (wd : Int) ≤ m
          · have t4 := text_no S (Utf8.encode (r : Int)) HT.out.ls m w2 hm (by omega) (by omega)
            go_wp2_with fail
            go_roundw
            case rel => exact ⟨k + wd, by omega, by go_num, HB2.out, HCl2⟩
            case measure => simp [intOf]; omega
          · have t4 : m < (wd : Int) := by omega
            clear hle hT
            go_wp2_with fail
            go_loopg [15] 2 (fun g _ wx => ∃ i : Nat, i + g = 2 ∧ wx = w2.iter S i)
            case atStart => exact ⟨0, by omega, rfl⟩
            case round =>
              obtain ⟨i, hig, rfl⟩ := hrel
              cases gk with
              | zero =>
                obtain rfl : i = 2 := by omega
                have hnx := fun ty => run_next_end (P := Tryd.prog) w2 S 2 ty (by omega)
                go_wp2_with fail
                go_roundw
                case rel => exact ⟨k + wd, by omega, by go_num, HB2.out.alloc HB2.out.size _, HCl2⟩
                case measure => simp [intOf]; omega
              | succ g =>
                have hi : i < S.size := by omega
                have hlow := HT.out.low i hi
                obtain ⟨y, hy⟩ : ∃ y, y = S[i] := ⟨_, rfl⟩
                have h128 : y.toNat < 128 := by rw [hy]; rcases hlow with h | h <;> (rw [h]; decide)
                have hnx := fun ty => run_next_ascii (P := Tryd.prog) w2 S i ty hi (by rw [← hy]; exact h128)
                rw [← hy] at hnx
                have t1 : ((r : Int) == (y.toNat : Int)) = false := by rw [beq_eq_false_iff_ne]; omega
                clear hlow hy
                go_wp2_with fail
                go_roundg g
                case measure => omega
                case rel => exact ⟨i + 1, by omega, rfl⟩
      · have hd : (x.toNat : Int) < 128 := by omega
        by_cases h13 : x = 13 ∨ x = 10
        · obtain ⟨v, hv0, hv⟩ := byte_yes S HT.out.ls x h13
          have HX := Lib.hid (idx_at k hkl (by rw [← hx]; exact h13) hb)
          clear hcl h13 hx hb
          go_wp2_with fail
          go_ret
          exact HX.out
        · have hv := byte_no S HT.out.ls x (fun h => h13 (Or.inl h)) (fun h => h13 (Or.inr h))
          simp only [not_or] at h13
          have HX := Lib.hid (clean_more HCl.out hkl (by rw [← hx]; exact h13.1) (by rw [← hx]; exact h13.2))
          clear hcl h13 hx hb
          go_wp2_with fail
          go_roundw
          case rel => exact ⟨k + 1, by omega, by go_num, HBr.out, HX⟩
          case measure => simp [intOf]; omega
    · have HX := Lib.hid (idx_none (clean_all HCl.out (by rw [HN.out]; exact hlk)) hb)
      clear hb
      go_wp2_with fail
      go_ret
      exact HX.out

theorem idx_any (S : ByteArray) (hS : S.data.toList = [13, 10]) (p : Option Addr) (l : List UInt8) (n c : Nat) (w : World) (hn : l.length = n) (hb : Bs w p l) (hc : n ≤ c) (hz : n ≤ 1048576) (hu : Ut w) :
    Calls Tryd.prog 52 #[.slice p n c, .string S] w (IdxP l w) := by
  by_cases h1 : n = 1
  · exact idx_one S hS p l n c w hn hb hc h1
  · by_cases h8 : n ≤ 8
    · exact idx_short S hS p l n c w hn hb hc h1 h8 hu
    · exact idx_long S hS p l n c w hn hb hc (by omega) hz
theorem has_any (S : ByteArray) (hS : S.data.toList = [13, 10]) (p : Option Addr) (l : List UInt8) (n c : Nat) (w : World) (hn : l.length = n) (hb : Bs w p l) (hc : n ≤ c) (hz : n ≤ 1048576) (hu : Ut w) :
    Calls Tryd.prog 46 #[.slice p n c, .string S] w fun e w' => e = .returned (.bool (!clean l)) ∧ Below w.heap.size w w' := by
  have C := Lib.hid (idx_any S hS p l n c w hn hb hc hz hu)
  clear hb hu hn hS
  go_enter Tryd.func46, Tryd.ntmps46
  go_wp2_with fail
  refine (show Calls _ _ _ _ _ from C.out).mono ?_
  rintro e w1 ⟨i, rfl, hi, hb1⟩
  go_wp2_with fail
  go_ret
  exact ⟨rfl, hb1⟩

end Go.Proofs.YteojijocoamohaaDoor.BytesA
