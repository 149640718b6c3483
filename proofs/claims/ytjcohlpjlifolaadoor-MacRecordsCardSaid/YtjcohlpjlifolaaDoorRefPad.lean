/-
  What the document's own padded comes to.
-/
import Derived.Test.YtjcohlpjlifolaaDoorRefBlock
import Derived.Test.YtjcohlpjlifolaaDoorHexWalk
import Derived.Laws.AppendOwnNone
namespace Go.Proofs.YtjcohlpjlifolaaDoor.RefT
open Go.RowKit Kit ShaMath ShaT HexW
set_option linter.unusedVariables false
set_option maxRecDepth 100000

theorem own_form {w : World} {base size n : Nat} {e : TypeId} {v : Value} {xs : List Value} (h : w.ownsRow base e size v n xs) (hn : 0 < n) : ∃ g c, v = .slice (some ⟨g, 0, none⟩) n c := by
  rcases h.2 with ⟨_, h0⟩ | ⟨g, cap, _, hv, _⟩
  · omega
  · exact ⟨g, cap, hv⟩
theorem bs_news {w w' : World} {b off : Nat} {l : List UInt8} (h : Bs w (some ⟨b, off, none⟩) l) (hb : Below w.heap.size w w') : ∀ j u, (bv l)[j]? = some u → w'.cell? ((⟨b, off, none⟩ : Addr).add j) = some u := by
  intro j u hu
  have hj : j < l.length := by
    rcases Nat.lt_or_ge j l.length with h' | h'
    · exact h'
    · rw [List.getElem?_eq_none (by rw [bv_length]; exact h')] at hu; cases hu
  rw [bv_at l j hj] at hu
  injection hu with hu
  subst hu
  obtain ⟨b', off', e, -, hc⟩ := (h.keep hb) (by omega)
  injection e with e
  injection e with e1 e2
  subst e1 e2
  rw [Addr.add_lit]
  exact hc j hj

theorem own_lit0 (w : World) : (w.alloc (.cells #[] 5)).ownsRow w.heap.size 5 1 (.slice (some ⟨w.heap.size, 0, none⟩) 0 0) 0 [] :=
  World.ownsRow_lit w #[] 0 (Nat.le_refl _) (by simp [maxLen]) rfl
def body (l : List UInt8) (n : Nat) : List UInt8 := l ++ [128] ++ List.replicate (n - (l.length + 1)) 0
theorem body_start (l : List UInt8) : body l (l.length + 1) = l ++ [128] := by simp [body]
theorem body_next (l : List UInt8) (n : Nat) (h : l.length + 1 ≤ n) : body l (n + 1) = body l n ++ [0] := by
  unfold body
  rw [show n + 1 - (l.length + 1) = (n - (l.length + 1)) + 1 by omega, List.replicate_succ', ← List.append_assoc]
theorem body_length (l : List UInt8) (n : Nat) (h : l.length + 1 ≤ n) : (body l n).length = n := by
  simp [body]; omega
theorem gap_le (n : Nat) : gap n ≤ 63 := by unfold gap; omega
theorem gap_mod (n : Nat) : (n + 1 + gap n) % 64 = 56 := by unfold gap; omega
theorem gap_not (n m : Nat) (h1 : n + 1 ≤ m) (h2 : m < n + 1 + gap n) : ¬ m % 64 = 56 := by unfold gap at h2; omega

theorem two_box (w : World) : ∀ j u, [Value.int .u8 128][j]? = some u → ((w.alloc (.cells #[] 5)).alloc (.cells #[.int .u8 128] 5)).cell? ((⟨w.heap.size + 1, 0, none⟩ : Addr).add j) = some u := by
  have h := one_news (w.alloc (.cells #[] 5)) (.int .u8 128) 5
  rwa [show (w.alloc (.cells #[] 5)).heap.size = w.heap.size + 1 by simp] at h
theorem len_byte (l : List UInt8) (k : Nat) (hk : k < 8) : ∃ y : Nat, ((l.length : Int) * 8 / 2 ^ (8 * (7 - k))).tmod 256 = (y : Int) ∧ y < 256 ∧ (be8 (8 * l.length)).take (k + 1) = (be8 (8 * l.length)).take k ++ [UInt8.ofNat y] := by
  refine ⟨8 * l.length / 2 ^ (8 * (7 - k)) % 256, ?_, Nat.mod_lt _ (by decide), ?_⟩
  · rw [show (l.length : Int) * 8 = ((8 * l.length : Nat) : Int) by omega, show (((8 * l.length : Nat) : Int) / 2 ^ (8 * (7 - k))) = ((8 * l.length / 2 ^ (8 * (7 - k)) : Nat) : Int) by simp]
    generalize 8 * l.length / 2 ^ (8 * (7 - k)) = z
    rw [Int.tmod_eq_emod_of_nonneg (by omega)]
    omega
  · rw [List.take_succ_eq_append_getElem (by rw [be8_length]; exact hk)]
    congr 2
    unfold be8
    simp
set_option maxHeartbeats 2000000 in
theorem rpadded_any (p : Option Addr) (l : List UInt8) (cap : Nat) (w : World) (hb : Bs w p l) (hl : l.length ≤ 70368744176640) (hnil : p = none → cap = 0) :
    Calls Tryd.prog 43 #[.slice p l.length cap] w fun e w' => ∃ v, e = .returned v ∧ w'.ownsRow w.heap.size 5 1 v (padded l).length (bv (padded l)) ∧ Below w.heap.size w w' := by
  obtain ⟨i0, hi0, hz0, hz1, hzb⟩ := info_parts u8_info
  have start : ∀ K : Prop, (∀ ad, p = some ad → (∀ w', Below w.heap.size w w' → ∀ j u, (bv l)[j]? = some u → w'.cell? (ad.add j) = some u) → K) → (p = none → l = [] → cap = 0 → K) → K := by
    intro K h1 h2
    cases hp : p with
    | none => 
      refine h2 hp ?_ (hnil hp)
      rcases Nat.eq_zero_or_pos l.length with h | h
      · exact List.eq_nil_of_length_eq_zero h
      · obtain ⟨b, off, e, -⟩ := hb h
        rw [hp] at e; cases e
    | some ad =>
      refine h1 ad hp (fun w' hw j u hu => ?_)
      have hj : 0 < l.length := by
        rcases Nat.eq_zero_or_pos l.length with h | h
        · rw [List.eq_nil_of_length_eq_zero h] at hu; simp [bv] at hu
        · exact h
      obtain ⟨b, off, e, -, -⟩ := hb hj
      have ead : ad = ⟨b, off, none⟩ := Option.some.inj (hp.symm.trans e)
      subst ead
      rw [hp] at hb
      exact bs_news hb hw j u hu
  have HG := gap_le l.length
  refine start _ (fun ad hp hcells => ?_) (fun hp hl0 hc0 => ?_)
  · subst hp
    have HC := Lib.hid hcells
    clear hcells start
    go_enter Tryd.func43, Tryd.ntmps43
    go_wp2_with (first | (at_builtin; (refine wpList_append_own _ rfl (.tmp 6) (.tmp 7) 22 rfl w.heap.size 5 i0 (.int .u8 0) 1 1 Tryd.underlying22 hi0 hz0 hz1 hzb rfl (by decide) _ 0 [] rfl (own_lit0 w) ad l.length cap (bv l) rfl (by rw [bv_length, Nat.mul_one]) (HC.out _ (below1 _ _)) (bv_one l) (by unfold maxLen; omega) (by omega) (by simp) ?_; intro v1 w1 hown1 hgrow1 _; have hb1 := Lib.hid ((below1 w _).grown hgrow1 (by simp) (own_base (own_lit0 w))); clear hgrow1)) | (at_builtin; refine wpList_append_own _ rfl (.tmp 8) (.tmp 9) 22 rfl w.heap.size 5 i0 (.int .u8 0) 1 1 Tryd.underlying22 hi0 hz0 hz1 hzb rfl (by decide) v1 (0 + l.length) _ rfl (hown1.alloc _) ⟨w1.heap.size, 0, none⟩ 1 1 [.int .u8 128] rfl rfl (one_news _ _ _) (by simp [Value.oneCell']) (by unfold maxLen; omega) (by omega) (by have := hb1.out.size; simp; omega) ?_; intro v2 w2 hown2 hgrow2 _))
    have hA : w2.ownsRow w.heap.size 5 1 v2 (l.length + 1) (bv (body l (l.length + 1))) := by
      rw [body_start, bv_app, show l.length + 1 = 0 + l.length + 1 by omega]
      exact hown2
    have hB : Below w.heap.size w w2 := (hb1.out.alloc hb1.out.size _).grown hgrow2 (by have := hb1.out.size; simp; omega) (own_base hown1)
    clear hown1 hown2 hgrow2 hb1 HC
    obtain ⟨g2, cc2, rfl⟩ := own_form hA (by omega)
    go_loopw [3] (fun v wr => ∃ (n g c : Nat), v = .slice (some ⟨g, 0, none⟩) n c ∧ l.length + 1 ≤ n ∧ n ≤ l.length + 1 + gap l.length ∧ Below w.heap.size w wr ∧ wr.ownsRow w.heap.size 5 1 v n (bv (body l n))) (fun v _ => match v with | .slice _ n _ => l.length + 1 + gap l.length - n | _ => 0)
    case atStart => exact ⟨l.length + 1, g2, cc2, rfl, Nat.le_refl _, by omega, hB, hA⟩
    case round =>
      obtain ⟨n, g, c, rfl, h1, h2, hbel, hown⟩ := hrel
      have hbs := hbel.size
      by_cases hn : n = l.length + 1 + gap l.length
      · have hd : (((n : Int) % 64) != 56) = false := by
          have := gap_mod l.length
          rw [hn]
          simp
          omega
        have HN := Lib.hid hn
        clear hn
        go_wp2_with fail
        go_loopw [3, 5] (fun v i wr => ∃ k : Nat, k ≤ 8 ∧ i = .int .i64 (7 - (k : Int)) ∧ Below w.heap.size w wr ∧ wr.ownsRow w.heap.size 5 1 v (n + k) (bv (body l n ++ (be8 (8 * l.length)).take k))) (fun _ i _ => (intOf i + 1).toNat)
        case atStart => exact ⟨0, by decide, rfl, hbel, by simpa using hown⟩
        case round =>
          obtain ⟨k, hk, rfl, hbel, hown⟩ := hrel
          have hbs := hbel.size
          by_cases hlt : k < 8
          · have hd2 : decide (0 ≤ 7 - (k : Int)) = true := decide_eq_true (by omega)
            obtain ⟨y, hy1, hy2, hy3⟩ := len_byte l k hlt
            have HY3 := Lib.hid hy3
            clear hy3
            go_wp2_with (at_builtin; refine wpList_append_own _ rfl (.tmp 26) (.tmp 33) 22 rfl w.heap.size 5 i0 (.int .u8 0) 1 1 Tryd.underlying22 hi0 hz0 hz1 hzb rfl (by decide) u3 (n + k) _ rfl (hown.alloc _) ⟨wr.heap.size, 0, none⟩ 1 1 [.int .u8 (y : Int)] rfl rfl (one_news _ _ _) (by simp [Value.oneCell']) (by unfold maxLen; omega) (by omega) (by simp; omega) ?_; intro v3 w3 hown3 hgrow3 _; have hb3 := Lib.hid ((hbel.alloc hbs _).grown hgrow3 (by simp; omega) (own_base hown)); have HO3 := Lib.hid hown3; clear hgrow3 hown3 hy1)
            go_roundw
            case rel => exact ⟨k + 1, by omega, by congr 1; omega, hb3.out, by
              have h := HO3.out
              rw [HY3.out, bv_app, bv_app, show n + (k + 1) = n + k + 1 by omega]
              rw [bv_app, List.append_assoc] at h
              rw [show bv [UInt8.ofNat y] = [.int .u8 (y : Int)] by unfold bv; simp only [List.map_cons, List.map_nil]; rw [show (UInt8.ofNat y).toNat = y % 256 from UInt8.toNat_ofNat', Nat.mod_eq_of_lt hy2]]
              exact h⟩
            case measure => simp [intOf]; omega
          · obtain rfl : k = 8 := by omega
            have hd2 : decide (0 ≤ 7 - ((8 : Nat) : Int)) = false := by decide
            have HP := Lib.hid (show body l n ++ (be8 (8 * l.length)).take 8 = padded l by rw [HN.out, List.take_of_length_le (by rw [be8_length]; exact Nat.le_refl _)]; unfold body padded; rw [show l.length + 1 + gap l.length - (l.length + 1) = gap l.length by omega])
            have HPL := Lib.hid (show (padded l).length = n + 8 by rw [padded_length, HN.out]; omega)
            have HO := Lib.hid hown
            clear hown
            rw [show (7 - ((8 : Nat) : Int)) = -1 from rfl]
            go_wp2_with fail
            go_ret
            exact ⟨_, rfl, by rw [HPL.out, ← HP.out]; exact HO.out, hbel⟩
      · have hd : (((n : Int) % 64) != 56) = true := by
          have := gap_not l.length n h1 (by omega)
          simp
          omega
        have HBN := Lib.hid (body_next l n h1)
        go_wp2_with (at_builtin; refine wpList_append_own _ rfl (.tmp 15) (.tmp 16) 22 rfl w.heap.size 5 i0 (.int .u8 0) 1 1 Tryd.underlying22 hi0 hz0 hz1 hzb rfl (by decide) (.slice (some ⟨g, 0, none⟩) n c) n _ rfl (hown.alloc _) ⟨wr.heap.size, 0, none⟩ 1 1 [.int .u8 0] rfl rfl (one_news _ _ _) (by simp [Value.oneCell']) (by unfold maxLen; omega) (by omega) (by simp; omega) ?_; intro v3 w3 hown3 hgrow3 _; obtain ⟨g3, c3, rfl⟩ := own_form hown3 (by omega); have hb3 := Lib.hid ((hbel.alloc hbs _).grown hgrow3 (by simp; omega) (own_base hown)); have HO3 := Lib.hid hown3; clear hgrow3 hown3)
        go_roundw
        case rel => exact ⟨n + 1, g3, c3, rfl, by omega, by omega, hb3.out, by rw [HBN.out, bv_app]; exact HO3.out⟩
        case measure => show l.length + 1 + gap l.length - (n + 1) < l.length + 1 + gap l.length - n; omega
  · subst hp hc0
    have HL0 := Lib.hid (show l.length = 0 by rw [hl0]; rfl)
    clear start hb hnil
    rw [HL0.out]
    go_enter Tryd.func43, Tryd.ntmps43
    go_wp2_with (at_builtin; (refine wpList_append_own _ rfl (.tmp 8) (.tmp 9) 22 rfl w.heap.size 5 i0 (.int .u8 0) 1 1 Tryd.underlying22 hi0 hz0 hz1 hzb rfl (by decide) (.slice (some ⟨w.heap.size, 0, none⟩) 0 0) 0 [] rfl ((own_lit0 w).alloc _) ⟨w.heap.size + 1, 0, none⟩ 1 1 [.int .u8 128] rfl rfl (two_box w) (by simp [Value.oneCell']) (by unfold maxLen; omega) (by omega) (by simp; omega) ?_; intro v2 w2 hown2 hgrow2 _))
    have hA : w2.ownsRow w.heap.size 5 1 v2 (l.length + 1) (bv (body l (l.length + 1))) := by
      rw [body_start, HL0.out, hl0]
      exact hown2
    have hB : Below w.heap.size w w2 := (below2 w _ _).grown hgrow2 (by simp; omega) (own_base (own_lit0 w))
    clear hown2 hgrow2 hl0
    obtain ⟨g2, cc2, rfl⟩ := own_form hA (by omega)
    go_loopw [3] (fun v wr => ∃ (n g c : Nat), v = .slice (some ⟨g, 0, none⟩) n c ∧ l.length + 1 ≤ n ∧ n ≤ l.length + 1 + gap l.length ∧ Below w.heap.size w wr ∧ wr.ownsRow w.heap.size 5 1 v n (bv (body l n))) (fun v _ => match v with | .slice _ n _ => l.length + 1 + gap l.length - n | _ => 0)
    case atStart => exact ⟨l.length + 1, g2, cc2, rfl, Nat.le_refl _, by omega, hB, hA⟩
    case round =>
      obtain ⟨n, g, c, rfl, h1, h2, hbel, hown⟩ := hrel
      have hbs := hbel.size
      by_cases hn : n = l.length + 1 + gap l.length
      · have hd : (((n : Int) % 64) != 56) = false := by
          have := gap_mod l.length
          rw [hn]
          simp
          omega
        have HN := Lib.hid hn
        clear hn
        go_wp2_with fail
        go_loopw [3, 5] (fun v i wr => ∃ k : Nat, k ≤ 8 ∧ i = .int .i64 (7 - (k : Int)) ∧ Below w.heap.size w wr ∧ wr.ownsRow w.heap.size 5 1 v (n + k) (bv (body l n ++ (be8 (8 * l.length)).take k))) (fun _ i _ => (intOf i + 1).toNat)
        case atStart => exact ⟨0, by decide, rfl, hbel, by simpa using hown⟩
        case round =>
          obtain ⟨k, hk, rfl, hbel, hown⟩ := hrel
          have hbs := hbel.size
          by_cases hlt : k < 8
          · have hd2 : decide (0 ≤ 7 - (k : Int)) = true := decide_eq_true (by omega)
            obtain ⟨y, hy1, hy2, hy3⟩ := len_byte l k hlt
            have hy0 : y = 0 := by rw [HL0.out] at hy1; simp at hy1; omega
            subst hy0
            have HY3 := Lib.hid hy3
            clear hy3
            go_wp2_with (at_builtin; refine wpList_append_own _ rfl (.tmp 26) (.tmp 33) 22 rfl w.heap.size 5 i0 (.int .u8 0) 1 1 Tryd.underlying22 hi0 hz0 hz1 hzb rfl (by decide) u3 (n + k) _ rfl (hown.alloc _) ⟨wr.heap.size, 0, none⟩ 1 1 [.int .u8 0] rfl rfl (one_news _ _ _) (by simp [Value.oneCell']) (by unfold maxLen; omega) (by omega) (by simp; omega) ?_; intro v3 w3 hown3 hgrow3 _; have hb3 := Lib.hid ((hbel.alloc hbs _).grown hgrow3 (by simp; omega) (own_base hown)); have HO3 := Lib.hid hown3; clear hgrow3 hown3 hy1)
            go_roundw
            case rel => exact ⟨k + 1, by omega, by congr 1; omega, hb3.out, by
              have h := HO3.out
              rw [HY3.out, bv_app, bv_app, show n + (k + 1) = n + k + 1 by omega]
              rw [bv_app, List.append_assoc] at h
              rw [show bv [UInt8.ofNat 0] = [.int .u8 0] from rfl]
              exact h⟩
            case measure => simp [intOf]; omega
          · obtain rfl : k = 8 := by omega
            have hd2 : decide (0 ≤ 7 - ((8 : Nat) : Int)) = false := by decide
            have HP := Lib.hid (show body l n ++ (be8 (8 * l.length)).take 8 = padded l by rw [HN.out, List.take_of_length_le (by rw [be8_length]; exact Nat.le_refl _)]; unfold body padded; rw [show l.length + 1 + gap l.length - (l.length + 1) = gap l.length by omega])
            have HPL := Lib.hid (show (padded l).length = n + 8 by rw [padded_length, HN.out]; omega)
            have HO := Lib.hid hown
            clear hown
            rw [show (7 - ((8 : Nat) : Int)) = -1 from rfl]
            go_wp2_with fail
            go_ret
            exact ⟨_, rfl, by rw [HPL.out, ← HP.out]; exact HO.out, hbel⟩
      · have hd : (((n : Int) % 64) != 56) = true := by
          have := gap_not l.length n h1 (by omega)
          simp
          omega
        have HBN := Lib.hid (body_next l n h1)
        go_wp2_with (at_builtin; refine wpList_append_own _ rfl (.tmp 15) (.tmp 16) 22 rfl w.heap.size 5 i0 (.int .u8 0) 1 1 Tryd.underlying22 hi0 hz0 hz1 hzb rfl (by decide) (.slice (some ⟨g, 0, none⟩) n c) n _ rfl (hown.alloc _) ⟨wr.heap.size, 0, none⟩ 1 1 [.int .u8 0] rfl rfl (one_news _ _ _) (by simp [Value.oneCell']) (by unfold maxLen; omega) (by omega) (by simp; omega) ?_; intro v3 w3 hown3 hgrow3 _; obtain ⟨g3, c3, rfl⟩ := own_form hown3 (by omega); have hb3 := Lib.hid ((hbel.alloc hbs _).grown hgrow3 (by simp; omega) (own_base hown)); have HO3 := Lib.hid hown3; clear hgrow3 hown3)
        go_roundw
        case rel => exact ⟨n + 1, g3, c3, rfl, by omega, by omega, hb3.out, by rw [HBN.out, bv_app]; exact HO3.out⟩
        case measure => show l.length + 1 + gap l.length - (n + 1) < l.length + 1 + gap l.length - n; omega

end Go.Proofs.YtjcohlpjlifolaaDoor.RefT
