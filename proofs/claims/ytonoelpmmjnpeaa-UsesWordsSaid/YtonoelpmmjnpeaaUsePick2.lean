/-
  The landed code of layer 8: the keys of mset and rename; channels.
-/
import Derived.Test.YtonoelpmmjnpeaaUsePick
import Derived.BigQuiet
import Derived.Deep.RegionLaw
namespace Go.Proofs.Ytonoelpmmjnpeaa.UseM
open Go.RowKit Kit StrT UseT TableMath Low MapT RefU
set_option linter.unusedVariables false
set_option maxRecDepth 100000

theorem ownU_nil (base : Nat) (w : World) : OwnU base w (.slice none 0 0) [] := ⟨rfl, Or.inl ⟨rfl, rfl⟩⟩

set_option maxHeartbeats 4000000 in
theorem mset_any (q : Option Addr) (args : List (List UInt8)) (n c : Nat) (w : World) (H : Args w q args n c) (hq : 1 ≤ n) : Calls Try.prog 40 #[.slice q n c] w (UsesP (keysK 4 args) w) := by
  have HS := Lib.hid H.ss
  have HN := Lib.hid H.len
  have hz := H.few
  have HO := Lib.hid (ownU_nil w.heap.size w)
  have HE := Lib.hid (odds_step args)
  clear H
  go_enter Try.func40, Try.ntmps40
  go_wp2_with fail
  go_loopw [3, 4] (fun v i wr => ∃ (k : Nat) (L : List U), 1 ≤ k ∧ k ≤ n + 1 ∧ i = .int .i64 k ∧ Hid (L.length ≤ k ∧ L ++ odds (args.drop k) = odds (args.drop 1)) ∧ Hid (OwnU w.heap.size wr v L) ∧ Hid (Below w.heap.size w wr)) (fun _ i _ => n + 2 - (intOf i).toNat)
  case atStart => exact ⟨1, [], Nat.le_refl _, by omega, rfl, Lib.hid ⟨by simp, rfl⟩, HO, Lib.hid (Below.refl _ _)⟩
  case round =>
    obtain ⟨k, L, hk1, hk, rfl, HL, HOw, HB⟩ := hrel
    by_cases hlt : k < n
    · have d1 : decide ((k : Int) < (n : Int)) = true := decide_eq_true (by omega)
      have hk0 : (0 : Int) ≤ (k : Int) := by omega
      have hkn : (k : Int) < (n : Int) := by omega
      obtain ⟨b, off, rfl, hbl, hu⟩ := ss_cell (HS.out.keep HB.out) k (by rw [HN.out]; exact hlt)
      have HNx := Lib.hid (HE.out k (by rw [HN.out]; exact hlt))
      have hg : args[k]'(by rw [HN.out]; exact hlt) = args.getD k [] := by simp [List.getD, HN.out, hlt]
      have HR := Lib.hid (show (L ++ [(⟨args.getD k [], false, true⟩ : U)]).length ≤ k + 2 ∧ (L ++ [(⟨args.getD k [], false, true⟩ : U)]) ++ odds (args.drop (k + 2)) = odds (args.drop 1) by
        refine ⟨by have := HL.out.1; simp; omega, ?_⟩
        rw [← HL.out.2, HNx.out, hg, List.append_assoc]
        rfl)
      obtain ⟨T, hT⟩ : ∃ T : ByteArray, T = ⟨(args.getD k []).toArray⟩ := ⟨_, rfl⟩
      rw [← hT] at hu
      have HO1 := Lib.hid (HOw.out.keep (bel1 wr (.cells #[.string T, .bool false, .bool true] 43)))
      have HC := Lib.hid (one_use wr _ T _ false true hT rfl)
      have HBa := Lib.hid (HB.out.alloc HB.out.size (.cells #[.string T, .bool false, .bool true] 43))
      have HLn := Lib.hid (show L.length ≤ 1048576 by have := HL.out.1; omega)
      clear hT hg
      go_wp2_with (at_builtin; refine wpList_append_u (w0 := w) rfl (.tmp 11) (.tmp 17) rfl _ _ rfl HO1.out HBa.out wr.heap.size ⟨args.getD k [], false, true⟩ 1 rfl HC.out HLn.out ?_; intro v' w3 hown1 hb3)
      go_roundw
      case rel => exact ⟨k + 2, _, by omega, by omega, by go_num, HR, Lib.hid hown1, Lib.hid hb3⟩
      case measure => simp [intOf]; omega
    · have d1 : decide ((k : Int) < (n : Int)) = false := decide_eq_false (by omega)
      have HX := Lib.hid (show OwnU w.heap.size wr u3 (keysK 4 args) from by
        show OwnU w.heap.size wr u3 (odds (args.drop 1))
        rw [← HL.out.2, List.drop_eq_nil_of_le (by rw [HN.out]; omega), odds, List.append_nil]
        exact HOw.out)
      go_wp2_with fail
      go_ret
      exact ⟨_, rfl, HX.out, HB.out⟩

set_option maxHeartbeats 2000000 in
theorem clone_any (q : Option Addr) (L : List (List UInt8)) (n c : Nat) (w : World) (hn : L.length = n) (h : Ss w q L) (hz : n ≤ 1048576) (hnil : q = none → c = 0) :
    Calls Try.prog 48 #[.slice q n c] w (TextsP L w) := by
  cases q with
  | none =>
    obtain rfl : L = [] := by
      cases L with
      | nil => rfl
      | cons y r => obtain ⟨b, off, e, -⟩ := h (by simp); cases e
    obtain rfl : n = 0 := hn.symm
    obtain rfl := hnil rfl
    clear h hn hnil
    have HA := Lib.hid (ansS_nil w.heap.size w)
    have heq : ∀ W, Sem.run Try.prog (binOp BinOp.eql 22 (.slice none 0 0) (.slice none 0 0)) W = .ok (.bool true) W := fun W => by kernel_rfl
    go_enter Try.func48, Try.ntmps48
    go_wp2_with fail
    go_ret
    exact ⟨_, rfl, HA.out, Below.refl _ _⟩
  | some ad =>
    have HN := Lib.hid hn
    have HS := Lib.hid (h.keep (bel1 w (.cells #[] 9)))
    have HO := Lib.hid (ownS_new w w w.heap.size rfl (Nat.le_refl _))
    have HB := Lib.hid (bel1 w (.cells #[] 9))
    have heq : ∀ W, Sem.run Try.prog (binOp BinOp.eql 22 (.slice (some ad) n c) (.slice none 0 0)) W = .ok (.bool false) W := fun W => by kernel_rfl
    clear hn h hnil
    go_enter Try.func48, Try.ntmps48
    go_wp2_with (at_builtin; refine wpList_append_ss (w0 := w) rfl (.tmp 5) (.tmp 6) rfl _ [] rfl HO.out HB.out (some ad) L n c rfl HN.out HS.out (fun h => by cases h) (by simp; omega) L rfl ?_; intro v' w3 hown hb)
    go_wp2_with fail
    go_ret
    exact ⟨_, rfl, ownS_ans hown, hb⟩
set_option maxHeartbeats 2000000 in
theorem chans_second (q : Option Addr) (args : List (List UInt8)) (n c : Nat) (w : World) (H : Args w q args n c) (h2 : 2 ≤ n) : Calls Try.prog 45 #[.slice q n c] w (TextsP (chansK 11 args) w) := by
  obtain ⟨b, off, rfl, -, -⟩ := ss_first H.ss (by have := H.len; omega)
  have C := Lib.hid (clone_any (some ⟨b, off + 1, none⟩) [args.getD 1 []] 1 (c - 1) w rfl (by rw [← part_two args (by have := H.len; omega)]; exact ss_from1 H.ss 2 (by omega) (by have := H.len; omega)) (by omega) (fun h => by cases h))
  have hc : 2 ≤ c := Nat.le_trans h2 H.cap
  have hc1 : ¬ c = 1 := by omega
  have hcm := H.capm
  clear H
  go_enter Try.func45, Try.ntmps45
  go_wp2_with fail
  with_reducible refine C.out.mono ?_
  rintro e w1 ⟨v, rfl, hv, hb⟩
  go_wp2_with fail
  go_ret
  exact ⟨_, rfl, hv, hb⟩
set_option maxHeartbeats 2000000 in
theorem chans_all (q : Option Addr) (args : List (List UInt8)) (n c : Nat) (w : World) (H : Args w q args n c) (h2 : 2 ≤ n) : Calls Try.prog 44 #[.slice q n c] w (TextsP (chansK 10 args) w) := by
  have hcm := H.capm
  have hc : 2 ≤ c := Nat.le_trans h2 H.cap
  have hc1 : ¬ c = 1 := by omega
  have h1 : 1 ≤ n := by omega
  obtain ⟨b, off, rfl, -, -⟩ := ss_first H.ss (by have := H.len; omega)
  have C := Lib.hid (clone_any (some ⟨b, off + 1, none⟩) (args.drop 1) (n - 1) (c - 1) w (by rw [List.length_drop, H.len]) (ss_all1 H.ss (by have := H.len; omega)) (by have := H.few; omega) (fun h => by cases h))
  clear H
  go_enter Try.func44, Try.ntmps44
  go_wp2_with fail
  with_reducible refine C.out.mono ?_
  rintro e w1 ⟨v, rfl, hv, hb⟩
  go_wp2_with fail
  go_ret
  exact ⟨_, rfl, hv, hb⟩

/-- An append of one key, as one step of a region that draws its order. -/
theorem step_append_u {w0 w : World} {ops : Array Oper} {o : Oper} {a : Act} {K : Act → World → Prop} {Q : Exit → Act → World → Prop} {E : Prop} (hgd : o.guard = none) (s x : Operand)
    (ho : o.op = .call { callee := .builtin .append, args := #[s, x], argTypes := #[25, 25] })
    (v : Value) (L : List U) (hs : a.eval s = v) (hown : OwnU w0.heap.size w v L) (hb : Below w0.heap.size w0 w)
    (g : Nat) (u : U) (c : Nat) (hx : a.eval x = .slice (some ⟨g, 0, none⟩) 1 c) (hg : ∀ j, j < 3 → w.cell? ⟨g, j, none⟩ = (uv u)[j]?) (hsz : L.length ≤ 1048576)
    (h : ∀ v' w', OwnU w0.heap.size w' v' (L ++ [u]) → Below w0.heap.size w0 w' → K (a.put o.dst v') w') : if Region.wanted o (yielded ops a.tmps) = true then Oper.wp Try.prog o a w K Q else E := by
  rw [if_pos (by simp [Region.wanted, hgd])]
  obtain ⟨i0, hi0, hz0, hz1, hzb⟩ := info_parts use_parts
  refine wp_append_own w s x 25 ho w0.heap.size 43 i0 _ 3 24 Try.underlying25 hi0 hz0 hz1 hzb rfl (by decide) v L.length (fv L) hs hown ⟨g, 0, none⟩ 1 c (uv u) hx rfl (fun j z hz => ?_) (fun z hz => ?_) (by unfold maxLen; omega) (by omega) hb.size ?_
  · have hj : j < 3 := (List.getElem?_eq_some_iff.1 hz).1
    rw [Addr.add_lit]
    first
      | rw [hg j hj]; exact hz
      | rw [Nat.zero_add, hg j hj]; exact hz
  · exact fv_one [u] z (by simpa [fv] using hz)
  · intro v' w' h1 h2 _
    refine h v' w' ?_ (hb.grown h2 hb.size (own_base hown))
    unfold OwnU
    rw [List.length_append, fv_app]
    have e : fv [u] = uv u := by simp [fv]
    rw [e]
    exact h1
theorem ownU_drew {base : Nat} {w : World} {v : Value} {L : List U} (h : OwnU base w v L) : OwnU base w.drew v L := h

end Go.Proofs.Ytonoelpmmjnpeaa.UseM
