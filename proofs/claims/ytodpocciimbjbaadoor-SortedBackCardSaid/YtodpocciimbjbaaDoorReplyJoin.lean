/-
  What the program's reply.Array and reply.Texts come to: over bytes.Join's contract.
-/
import Derived.Test.YtodpocciimbjbaaDoorReplyLine
import Derived.Test.YtodpocciimbjbaaDoorReplyRowsR
namespace Go.Proofs.YtodpocciimbjbaaDoor.ReplyM
open Go.RowKit Kit BytesIn ReplyMath ReplyT NumMath NumL
set_option linter.unusedVariables false
set_option maxRecDepth 100000

theorem cell_lt {w : World} {a : Addr} {v : Value} (h : w.cell? a = some v) : a.block < w.heap.size := by
  rcases Nat.lt_or_ge a.block w.heap.size with h' | h'
  · exact h'
  · simp [World.cell?, Array.getElem?_eq_none h'] at h
theorem ok_holds {w : World} {v : Value} {l : List UInt8} (h : Ok w v l) : Lib.HoldsBytes w v l := by
  obtain ⟨p, c, hv, hB, h1, h2, h3⟩ := h
  refine ⟨p, c, hv, fun hp => ?_, fun a ha i x hx => ?_⟩
  · rcases Nat.eq_zero_or_pos l.length with h' | h'
    · exact List.eq_nil_of_length_eq_zero h'
    · obtain ⟨b, off, e, -⟩ := hB h'
      rw [hp] at e
      cases e
  · have hi : i < l.length := by
      rcases Nat.lt_or_ge i l.length with h' | h'
      · exact h'
      · rw [List.getElem?_eq_none h'] at hx; cases hx
    obtain ⟨b, off, e, -, hc⟩ := hB (by omega)
    rw [ha] at e
    injection e with e
    subst e
    rw [Addr.add_lit, hc i hi]
    rw [List.getElem?_eq_getElem hi] at hx
    injection hx with hx
    rw [hx]
theorem fresh_ans {base : Nat} {w : World} {v : Value} {l : List UInt8} (h : Lib.FreshBytes base w v l) : Ans base w v l := by
  obtain ⟨g, cap, zs, hv, hg, hlc, hm, hzl, hz, hbz, hc, -⟩ := h
  unfold maxLen at hm
  refine ⟨_, cap, hv, fun h0 => ⟨g, 0, rfl, cell_lt (hc 0 (by omega)), fun j hj => ?_⟩, fun a ha => ?_, hlc, by omega, fun h => by cases h⟩
  · rw [Nat.zero_add, hc j (by omega)]
    have hjz : j < zs.length := by omega
    have e : l[j]? = some (UInt8.ofNat (zs[j]).toNat) := by
      have := congrArg (fun L => L[j]?) hbz
      simp only [Lib.bytesOf, List.getElem?_map, List.getElem?_take, hj, if_true, List.getElem?_eq_getElem hjz, Option.map_some] at this
      exact this.symm
    rw [List.getElem?_eq_getElem hj] at e
    injection e with e
    have hb := hz zs[j] (List.getElem_mem hjz)
    rw [e, List.getD_eq_getElem?_getD, List.getElem?_eq_getElem hjz]
    have : (UInt8.ofNat (zs[j]).toNat).toNat = (zs[j]).toNat := by rw [UInt8.toNat_ofNat']; omega
    rw [this]
    simp
    omega
  · injection ha with ha
    subst ha
    exact hg
theorem join_flat : ∀ (L : List (List UInt8)), Lib.join L [] = L.flatten
  | [] => rfl
  | x :: r => by
    rw [Lib.join_cons]
    simp [Lib.joinTail]
theorem lens_flat (L : List (List UInt8)) : Lib.lens L = L.flatten.length := by simp [Lib.lens, List.length_flatten]

theorem join_any (q : Option Addr) (L : List (List UInt8)) (n c : Nat) (w : World) (hL : L.length = n) (h : Rs w q L) (hc : n ≤ c) (hn : n ≤ 4096) (hz : L.flatten.length ≤ 1073741824) :
    Calls Tryd.prog 72 #[.slice q n c, .slice none 0 0] w fun e w' => ∃ v, e = .returned v ∧ Ans w.heap.size w' v L.flatten ∧ Below w.heap.size w w' := by
  rcases Nat.lt_or_ge 0 n with h0 | h0
  · obtain ⟨b, off, rfl, hlt, hcell⟩ := h (by omega)
    rcases Nat.lt_or_ge 1 n with h1 | h1
    · have hlen : ((List.range n).map fun j => (w.cell? ⟨b, off + j, none⟩).getD (.bool false)).length = L.length := by simp [hL]
      refine (Tryd.bytes_Join_many b off n c ((List.range n).map fun j => (w.cell? ⟨b, off + j, none⟩).getD (.bool false)) L (.slice none 0 0) [] w hL h1 ⟨hlen, fun i v hv => ?_, fun i v l hv hl => ?_⟩ hc ⟨none, 0, rfl, fun _ => rfl, fun a ha => by cases ha⟩ (by omega) (by rw [lens_flat, List.length_nil, Nat.zero_mul]; omega)).mono ?_
      · have hi : i < n := by
          rcases Nat.lt_or_ge i n with h' | h'
          · exact h'
          · rw [List.getElem?_eq_none (by simp; omega)] at hv; cases hv
        obtain ⟨u, hu, -⟩ := hcell i (by omega)
        simp [hi] at hv
        rw [Addr.add_lit, hu]
        rw [hu] at hv
        simpa using hv
      · have hi : i < n := by
          rcases Nat.lt_or_ge i n with h' | h'
          · exact h'
          · rw [List.getElem?_eq_none (by simp; omega)] at hv; cases hv
        obtain ⟨u, hu, hok⟩ := hcell i (by omega)
        simp [hi] at hv
        rw [hu] at hv
        simp at hv
        subst hv
        rw [List.getElem?_eq_getElem (by omega)] at hl
        injection hl with hl
        rw [← hl]
        exact ok_holds hok
      · rintro e w' ⟨v, he, hf, hb⟩
        rw [join_flat] at hf
        exact ⟨v, he, fresh_ans hf, hb⟩
    · obtain rfl : n = 1 := by omega
      obtain ⟨l0, rfl⟩ : ∃ l0, L = [l0] := List.length_eq_one_iff.1 hL
      have hfl : [l0].flatten = l0 := by simp
      rw [hfl] at hz ⊢
      obtain ⟨u, hu, p0, c0, hv, hB, -⟩ := hcell 0 (by simp)
      have hu : w.cell? ⟨b, off, none⟩ = some u := hu
      have hv : u = .slice p0 l0.length c0 := hv
      have hB : Bs w p0 l0 := hB
      subst hv
      rcases Nat.eq_zero_or_pos l0.length with h' | h'
      · obtain rfl : l0 = [] := List.eq_nil_of_length_eq_zero h'
        refine (Tryd.bytes_Join_one_empty b off c p0 c0 (.slice none 0 0) w hu).mono ?_
        rintro e w' ⟨he, rfl⟩
        exact ⟨_, he, ans_none _ _, Below.refl _ _⟩
      · obtain ⟨bb, oo, rfl, hlt2, hcc⟩ := hB h'
        refine (Tryd.bytes_Join_one b off c ⟨bb, oo, none⟩ c0 l0 (.slice none 0 0) w hu (fun i x hx => ?_) h' (by omega)).mono ?_
        · have hi : i < l0.length := by
            rcases Nat.lt_or_ge i l0.length with h' | h'
            · exact h'
            · rw [List.getElem?_eq_none h'] at hx; cases hx
          rw [Addr.add_lit, hcc i hi]
          rw [List.getElem?_eq_getElem hi] at hx
          injection hx with hx
          rw [hx]
        · rintro e w' ⟨v, he, hf, hb⟩
          exact ⟨v, he, fresh_ans hf, hb⟩
  · obtain rfl : n = 0 := by omega
    obtain rfl : L = [] := List.eq_nil_of_length_eq_zero hL
    refine (Tryd.bytes_Join_none q c (.slice none 0 0) w).mono ?_
    rintro e w' ⟨he, rfl⟩
    refine ⟨_, he, ⟨_, 0, rfl, fun h => absurd h (by simp), fun a ha => ?_, by simp, by omega, fun h => by cases h⟩, below1 _ _⟩
    injection ha with ha
    subst ha
    exact Nat.le_refl _

set_option maxHeartbeats 1000000 in
theorem array_own (q : Option Addr) (L : List (List UInt8)) (n c : Nat) (w : World) (hL : L.length = n) (h : Rs w q L) (hc : n ≤ c) (hn : n ≤ 4096) (hz : L.flatten.length ≤ 1073741824) (hg : Gt w) :
    Calls Tryd.prog 65 #[.slice q n c] w fun e w' => ∃ v, e = .returned v ∧ Own w.heap.size w' v (array L) ∧ Below w.heap.size w w' := by
  have C := Lib.hid (text_t (n : Int) (by omega) (by omega) w hg)
  obtain ⟨F, hF⟩ : ∃ F : ByteArray, F = ⟨(Lib.itoa (n : Int)).toArray⟩ := ⟨_, rfl⟩
  have hF20 : F.size ≤ 20 := by rw [hF]; exact text_len _ (by omega) (by omega)
  obtain ⟨H, hH⟩ : ∃ H : List UInt8, H = 42 :: (F.data.toList ++ [13, 10]) := ⟨_, rfl⟩
  have LL := Lib.hid (fun W hb => line_is 42 42 rfl F w W (by omega) hb H hH.symm)
  have J := Lib.hid (fun W (hb : Below w.heap.size w W) => join_any q L n c W hL (h.keep hb) hc hn hz)
  have HH := Lib.hid (show H.length ≤ 23 by rw [hH]; simp; omega)
  have HE := Lib.hid (show H ++ L.flatten = array L by rw [hH, hF, ← hL]; simp [array])
  rw [← hF] at C
  clear hF hg hH h hL
  obtain ⟨X, hX⟩ : ∃ X, X = L.flatten := ⟨_, rfl⟩
  rw [← hX] at J HE hz
  clear hX
  go_enter Tryd.func65, Tryd.ntmps65
  go_wp2_with fail
  refine C.out.mono ?_
  rintro e w1 ⟨rfl, hb⟩
  go_wp2_with fail
  refine (LL.out _ hb).mono ?_
  rintro e w2 ⟨v, rfl, ho, hb2⟩
  go_wp2_with fail
  refine (J.out _ hb2).mono ?_
  rintro e w3 ⟨v3, rfl, ha, hb3⟩
  obtain ⟨p3, c3, rfl, hB3, hp3, hc3, hcm3, hn3⟩ := ha
  have ho3 := Lib.hid (own_keep ho hb3)
  have hb3' := Lib.hid (hb2.trans (hb3.mono hb2.size))
  clear ho hb3 hb2
  obtain ⟨nx, hnx⟩ : ∃ nx, nx = X.length := ⟨_, rfl⟩
  rw [← hnx] at hc3 hz ⊢
  have HNx := Lib.hid hnx
  clear hnx
  go_wp2_with (at_builtin; refine wpList_append_bs (w0 := w) rfl (.tmp 6) (.tmp 8) rfl v H rfl ho3.out hb3'.out p3 X nx c3 rfl HNx.out.symm hB3 hn3 (by have := HH.out; omega) _ rfl ?_; intro v4 w4 ho4 hb4)
  rw [HE.out] at ho4
  go_ret
  exact ⟨_, rfl, ho4, hb4⟩
theorem array_any (q : Option Addr) (L : List (List UInt8)) (n c : Nat) (w : World) (hL : L.length = n) (h : Rs w q L) (hc : n ≤ c) (hcm : c ≤ 9223372036854775807) (hnil : q = none → c = 0) (hn : n ≤ 4096) (hz : L.flatten.length ≤ 1073741824) (hg : Gt w) :
    Calls Tryd.prog 65 #[.slice q n c] w (Gives (array L) w) :=
  (array_own q L n c w hL h hc hn hz hg).mono fun e w' ⟨v, he, ho, hb⟩ => ⟨v, he, ho.ans, hb⟩
theorem array_nil (w : World) (hg : Gt w) : Calls Tryd.prog 65 #[.slice none 0 0] w fun e w' => ∃ v, e = .returned v ∧ OwnG w.heap.size w' v (array []) ∧ Below w.heap.size w w' :=
  (array_own none [] 0 0 w rfl (fun h => absurd h (by simp)) (Nat.le_refl _) (by decide) (by decide) hg).mono fun e w' ⟨v, he, ho, hb⟩ => ⟨v, he, ho.gen, hb⟩

theorem bulk_len' (s : List UInt8) (h : s.length ≤ 1048576) : (bulk s).length ≤ s.length + 25 := by
  have := itoa_len (s.length : Int) (by omega) (by omega)
  simp [bulk]
  omega
theorem bulks_len' : ∀ (L : List (List UInt8)), (∀ s ∈ L, s.length ≤ 1048576) → (L.map bulk).flatten.length ≤ L.flatten.length + 25 * L.length
  | [], _ => by simp
  | s :: L, h => by
    have h1 := bulk_len' s (h s (by simp))
    have h2 := bulks_len' L (fun t ht => h t (by simp [ht]))
    simp only [List.map_cons, List.flatten_cons, List.length_append, List.length_cons]
    omega
theorem flat_le' : ∀ (L : List (List UInt8)) (m : Nat), (∀ s ∈ L, s.length ≤ m) → L.flatten.length ≤ m * L.length
  | [], _, _ => by simp
  | s :: L, m, h => by
    have h1 := h s (by simp)
    have h2 := flat_le' L m (fun t ht => h t (by simp [ht]))
    simp only [List.flatten_cons, List.length_append, List.length_cons, Nat.mul_succ]
    omega
theorem mem_flat' : ∀ (L : List (List UInt8)) (s : List UInt8), s ∈ L → s.length ≤ L.flatten.length
  | t :: L, s, h => by
    rw [List.flatten_cons, List.length_append]
    rcases List.mem_cons.1 h with rfl | h
    · omega
    · have := mem_flat' L s h
      omega
set_option maxHeartbeats 1000000 in
theorem texts_sum (q : Option Addr) (L : List (List UInt8)) (n c : Nat) (w : World) (hL : L.length = n) (h : Ss w q L) (hc : n ≤ c) (hcm : c ≤ 9223372036854775807) (hnil : q = none → c = 0) (hn : n ≤ 4096) (hz : L.flatten.length ≤ 1048576) (hg : Gt w) :
    Calls Tryd.prog 58 #[.slice q n c] w (Gives (texts L) w) := by
  obtain ⟨i0, hi0, hz0, hz1, hzb⟩ := info_parts row_parts
  have hmk := run_make (P := Tryd.prog) w 67 29 i0 (.slice none 0 0) Tryd.underlying67 hi0 hz0 .i64 .i64 0 (n : Int) (by omega) (by omega) (by rw [hzb]; omega) (by omega)
  rw [hz1, show (n : Int).toNat * 1 = n by omega, show (n : Int).toNat = n by omega] at hmk
  have HLn := Lib.hid hL
  have HS := Lib.hid h
  have HZ := Lib.hid (fun s (hs : s ∈ L) => Nat.le_trans (mem_flat' L s hs) hz)
  have HZs := Lib.hid hz
  have HG := Lib.hid hg
  have HO0 := Lib.hid (show OwnR w.heap.size (w.alloc (.cells (madeCells (Value.slice none 0 0).cells n) 29)) (.slice (some ⟨w.heap.size, 0, none⟩) 0 n) [] from
    ⟨[], World.ownsRow_made w _ n (Nat.le_refl _) (by unfold maxLen; omega) (by rw [size_madeCells, Nat.mul_one]), fun j hj => absurd hj (by simp)⟩)
  clear h hL hz hg
  go_enter Tryd.func58, Tryd.ntmps58
  go_wp2_with fail
  go_loopw [3, 11] (fun v i wr => ∃ k : Nat, k ≤ n ∧ i = .int .i64 k ∧ Below w.heap.size w wr ∧ Hid (OwnR w.heap.size wr v ((L.take k).map bulk))) (fun _ i _ => n - (intOf i).toNat)
  case atStart => exact ⟨0, Nat.zero_le _, rfl, below1 _ _, HO0⟩
  case round =>
    obtain ⟨k, hk, rfl, hb, HO⟩ := hrel
    clear hmk
    by_cases hlt : k < n
    · have hkl : k < L.length := by rw [HLn.out]; exact hlt
      obtain ⟨b, off, rfl, hbl, hc⟩ := (HS.out.keep hb) (by omega)
      have hu := hc k hkl
      obtain ⟨S, hS⟩ : ∃ S : ByteArray, S = ⟨L[k].toArray⟩ := ⟨_, rfl⟩
      have HSz := Lib.hid (show S.size ≤ 1048576 by rw [hS, size_bytes]; have := HZ.out L[k] (List.getElem_mem hkl); omega)
      have C := Lib.hid (bulk_any S wr HSz.out (HG.out.keep hb))
      have HSN := Lib.hid (show (L.take (k + 1)).map bulk = (L.take k).map bulk ++ [bulk S.data.toList] by
        rw [List.take_succ_eq_append_getElem hkl, List.map_append, hS]
        rfl)
      rw [← hS] at hu
      clear hS hc
      have HKl := Lib.hid (show ((L.take k).map bulk).length + 1 ≤ 1048576 by rw [List.length_map, List.length_take]; omega)
      obtain ⟨Y, hY⟩ : ∃ Y, Y = (L.take k).map bulk := ⟨_, rfl⟩
      rw [← hY] at HSN HO HKl
      obtain ⟨B, hB⟩ : ∃ B, B = bulk S.data.toList := ⟨_, rfl⟩
      rw [← hB] at HSN C
      clear hY hB
      go_wp2_with fail
      refine C.out.mono ?_
      rintro e w1 ⟨x, rfl, hx, hb1⟩
      obtain ⟨px, cx, rfl⟩ := hx.form
      obtain ⟨nx, hnx⟩ : ∃ nx, nx = B.length := ⟨_, rfl⟩
      rw [← hnx] at hx ⊢
      clear hnx
      have hbw := Lib.hid (hb.trans (hb1.mono hb.size))
      have HO1 := Lib.hid ((HO.out.keep hb1).keep (below1 w1 (.cells [.slice px nx cx].toArray 29)))
      have HX := Lib.hid (hx.ok.keep (below1 w1 (.cells [.slice px nx cx].toArray 29)))
      have HAp := Lib.hid (hx.apart (v := u3) (fun g hg => (HO.out.lt g hg).2))
      clear hx hb1 hb
      go_wp2_with (at_builtin; refine wpList_append_r (w0 := w) rfl (.tmp 15) (.tmp 18) rfl u3 Y rfl HO1.out (hbw.out.alloc hbw.out.size _) w1.heap.size 1 1 [.slice px nx cx] [B] rfl rfl rfl (laid_new w1 [.slice px nx cx]) (one_row HX.out HAp.out) (one_cells HX.out) HKl.out _ rfl ?_; intro v' w2 hown1 hb2)
      go_roundw
      case rel => exact ⟨k + 1, by omega, by go_num, hb2, by rw [HSN.out]; exact Lib.hid hown1⟩
      case measure => simp [intOf]; omega
    · have HFo := Lib.hid (show OwnR w.heap.size wr u3 (L.map bulk) by
        have h1 := HO.out
        rw [List.take_of_length_le (by rw [HLn.out]; omega)] at h1
        exact h1)
      clear HO
      have hml : (L.map bulk).length = n := by rw [List.length_map, HLn.out]
      obtain ⟨p, c', hv, hR, hc1, hc2, hc3⟩ := HFo.out.rs
      rw [hml] at hv hc1
      subst hv
      have C := Lib.hid (array_any p (L.map bulk) n c' wr hml hR hc1 hc2 hc3 (by omega) (by have h1 := bulks_len' L HZ.out; have h2 := HZs.out; rw [HLn.out] at h1; omega) (HG.out.keep hb))
      clear hR hml
      go_wp2_with fail
      refine C.out.mono ?_
      rintro e w1 ⟨x, rfl, hx, hb1⟩
      go_wp2_with fail
      go_ret
      exact ⟨_, rfl, hx.base hb.size, hb.trans (hb1.mono hb.size)⟩
theorem texts_any (q : Option Addr) (L : List (List UInt8)) (n c : Nat) (w : World) (hL : L.length = n) (h : Ss w q L) (hc : n ≤ c) (hcm : c ≤ 9223372036854775807) (hnil : q = none → c = 0) (hn : n ≤ 1024) (hz : ∀ s ∈ L, s.length ≤ 1024) (hg : Gt w) :
    Calls Tryd.prog 58 #[.slice q n c] w (Gives (texts L) w) :=
  texts_sum q L n c w hL h hc hcm hnil (by omega) (by have h1 := flat_le' L 1024 hz; rw [hL] at h1; omega) hg

end Go.Proofs.YtodpocciimbjbaaDoor.ReplyM
