/-
  Packed by program.
-/
import Derived.Test.YtpoinibckmbfcaaGreatDoorPk21
namespace Go.Proofs.YtpoinibckmbfcaaGreatDoor.ShaT
open Go.RowKit Kit ShaMath
set_option linter.unusedVariables false
set_option maxRecDepth 100000
set_option maxHeartbeats 400000 in
theorem turn_any (x : Nat) (n : Nat) (w : World) (hx : x < 4294967296) (h0 : 0 < n) (hn : n < 32) :
  Calls Tryz.prog 183 #[.int .u32 x,.int .u32 n] w fun e w' => e = .returned (.int .u32 (rot x n)) ∧ w = w' := by
 have HV := Lib.hid (turn_val x n hx (by omega))
 go_enter Tryz.func183,Tryz.ntmps183
 go_wp2
 go_ret
 exact ⟨ret_int HV.out,rfl⟩
theorem turn_2 (x : Nat) (w : World) (hx : x < 4294967296) : Calls Tryz.prog 183 #[.int .u32 x,.int .u32 2] w fun e w' => e = .returned (.int .u32 (rot x 2)) ∧ w = w' := turn_any x 2 w hx (by decide) (by decide)
theorem turn_6 (x : Nat) (w : World) (hx : x < 4294967296) : Calls Tryz.prog 183 #[.int .u32 x,.int .u32 6] w fun e w' => e = .returned (.int .u32 (rot x 6)) ∧ w = w' := turn_any x 6 w hx (by decide) (by decide)
theorem turn_7 (x : Nat) (w : World) (hx : x < 4294967296) : Calls Tryz.prog 183 #[.int .u32 x,.int .u32 7] w fun e w' => e = .returned (.int .u32 (rot x 7)) ∧ w = w' := turn_any x 7 w hx (by decide) (by decide)
theorem turn_11 (x : Nat) (w : World) (hx : x < 4294967296) : Calls Tryz.prog 183 #[.int .u32 x,.int .u32 11] w fun e w' => e = .returned (.int .u32 (rot x 11)) ∧ w = w' := turn_any x 11 w hx (by decide) (by decide)
theorem turn_13 (x : Nat) (w : World) (hx : x < 4294967296) : Calls Tryz.prog 183 #[.int .u32 x,.int .u32 13] w fun e w' => e = .returned (.int .u32 (rot x 13)) ∧ w = w' := turn_any x 13 w hx (by decide) (by decide)
theorem turn_17 (x : Nat) (w : World) (hx : x < 4294967296) : Calls Tryz.prog 183 #[.int .u32 x,.int .u32 17] w fun e w' => e = .returned (.int .u32 (rot x 17)) ∧ w = w' := turn_any x 17 w hx (by decide) (by decide)
theorem turn_18 (x : Nat) (w : World) (hx : x < 4294967296) : Calls Tryz.prog 183 #[.int .u32 x,.int .u32 18] w fun e w' => e = .returned (.int .u32 (rot x 18)) ∧ w = w' := turn_any x 18 w hx (by decide) (by decide)
theorem turn_19 (x : Nat) (w : World) (hx : x < 4294967296) : Calls Tryz.prog 183 #[.int .u32 x,.int .u32 19] w fun e w' => e = .returned (.int .u32 (rot x 19)) ∧ w = w' := turn_any x 19 w hx (by decide) (by decide)
theorem turn_22 (x : Nat) (w : World) (hx : x < 4294967296) : Calls Tryz.prog 183 #[.int .u32 x,.int .u32 22] w fun e w' => e = .returned (.int .u32 (rot x 22)) ∧ w = w' := turn_any x 22 w hx (by decide) (by decide)
theorem turn_25 (x : Nat) (w : World) (hx : x < 4294967296) : Calls Tryz.prog 183 #[.int .u32 x,.int .u32 25] w fun e w' => e = .returned (.int .u32 (rot x 25)) ∧ w = w' := turn_any x 25 w hx (by decide) (by decide)
set_option maxHeartbeats 1000000 in
theorem round_any (a b c d e f g h kw : Nat) (w : World) (ha : a < 4294967296) (hb : b < 4294967296) (hc : c < 4294967296) (he : e < 4294967296) (hf : f < 4294967296) (hg : g < 4294967296) :
  Calls Tryz.prog 182 #[.agg #[.int .u32 a,.int .u32 b,.int .u32 c,.int .u32 d,.int .u32 e,.int .u32 f,.int .u32 g,.int .u32 h],.int .u32 kw] w fun en w' => en = .returned (.agg (c8 (rnd ⟨a,b,c,d,e,f,g,h⟩ kw))) ∧ Below w.heap.size w w' := by
 have HR := Lib.hid (rnd_val a b c d e f g h kw)
 have v1 := bigE_val e he
 have v2 := bigA_val a ha
 have v3 := pick_val e f g he hf hg
 have v4 := most_val a b c ha hb hc
 have hsg : IntKind.u32.signed = false := rfl
 go_enter Tryz.func182,Tryz.ntmps182
 go_wp2_with fail
 go_quiet (fail)
 go_wp2_with (go_at_call 183; (first | (with_reducible refine (turn_6 _ _ he).mono ?_) | (with_reducible refine (turn_11 _ _ he).mono ?_) | (with_reducible refine (turn_25 _ _ he).mono ?_) | (with_reducible refine (turn_2 _ _ ha).mono ?_) | (with_reducible refine (turn_13 _ _ ha).mono ?_) | (with_reducible refine (turn_22 _ _ ha).mono ?_)); rintro e w' ⟨rfl,rfl⟩)
 clear v1 v2 v3 v4
 refine bodyPost_ret (v := .agg #[.int .u32 (((h : Int) + (bigE e : Int) + (pick e f g : Int) + (kw : Int) + ((bigA a : Int) + (most a b c : Int))) % 4294967296),.int .u32 a,.int .u32 b,.int .u32 c,.int .u32 (((d : Int) + ((h : Int) + (bigE e : Int) + (pick e f g : Int) + (kw : Int))) % 4294967296),.int .u32 e,.int .u32 f,.int .u32 g]) (by simp [results,Tryz.results182,go_sem]) rfl ⟨HR.out,?_⟩
 have hb0 : Below w.heap.size w ((w.alloc (.cells #[.int .u32 a,.int .u32 b,.int .u32 c,.int .u32 d,.int .u32 e,.int .u32 f,.int .u32 g,.int .u32 h] 168)).alloc (.cells #[.int .u32 0,.int .u32 0,.int .u32 0,.int .u32 0,.int .u32 0,.int .u32 0,.int .u32 0,.int .u32 0] 168)) := ((Below.refl _ _).alloc (Nat.le_refl _) _).alloc (by simp) _
 refine Below.setCell ?_ (by simp) _
 refine Below.setCell ?_ (by simp) _
 refine Below.setCell ?_ (by simp) _
 refine Below.setCell ?_ (by simp) _
 refine Below.setCell ?_ (by simp) _
 refine Below.setCell ?_ (by simp) _
 refine Below.setCell ?_ (by simp) _
 refine Below.setCell ?_ (by simp) _
 exact ⟨hb0.os,hb0.tape,hb0.output,hb0.size,hb0.block⟩
end Go.Proofs.YtpoinibckmbfcaaGreatDoor.ShaT
namespace Go.Proofs.YtpoinibckmbfcaaGreatDoor.ShaT
open Go.RowKit Kit ShaMath
set_option linter.unusedVariables false
set_option maxRecDepth 100000
set_option maxHeartbeats 1000000 in
theorem block_any (p : Option Addr) (l : List UInt8) (cap : Nat) (w : World) (hs : Bs w p l) (hl : l.length ≤ maxLen) :
  Calls Tryz.prog 166 #[.slice p l.length cap] w fun e w' => e = .returned (.agg (b64 l).toArray) ∧ Below w.heap.size w w' := by
 unfold maxLen at hl
 obtain ⟨hz,hn⟩ := zero_of_info info_b64
 have hsz : (Tryz.prog.info? 5).map (·.size) = some 1 := by kernel_rfl
 obtain ⟨X,hX⟩ : ∃ X,X = bv (l.take 64) := ⟨_,rfl⟩
 have HX := Lib.hid hX
 have hXl : X.length = Nat.min l.length 64 := by rw [hX,bv_length,List.length_take]; exact Nat.min_comm _ _
 have hX1 : ∀ v ∈ X,v.oneCell' = true := by rw [hX]; exact bv_one _
 have hXc : 0 < X.length → ∃ ad,p = some ad ∧ ∀ j v,X[j]? = some v → w.cell? (ad.add j) = some v ∧ ad.block < w.heap.size := by
  intro h0
  rw [hXl] at h0
  obtain ⟨b,off,hp,hlt,hc⟩ := hs (by have : Nat.min l.length 64 ≤ l.length := Nat.min_le_left _ _; omega)
  refine ⟨_,hp,fun j v hv => ⟨?_,hlt⟩⟩
  have hj : j < l.length := by
   have h1 : j < X.length := by
    rcases Nat.lt_or_ge j X.length with h | h
    · exact h
    · rw [List.getElem?_eq_none h] at hv; cases hv
   have : Nat.min l.length 64 ≤ l.length := Nat.min_le_left _ _
   omega
  have hj2 : j < 64 := by
   have h1 : j < X.length := by
    rcases Nat.lt_or_ge j X.length with h | h
    · exact h
    · rw [List.getElem?_eq_none h] at hv; cases hv
   have : Nat.min l.length 64 ≤ 64 := Nat.min_le_right _ _
   omega
  rw [hX] at hv
  have hv2 : (bv (l.take 64))[j]? = some (.int .u8 (l[j].toNat : Int)) := by simp [bv,hj,hj2]
  have hv3 := Option.some.inj (hv2.symm.trans hv)
  subst hv3
  have : (⟨b,off,none⟩ : Addr).add j = ⟨b,off + j,none⟩ := by simp [Addr.add]
  rw [this]
  exact hc j hj
 have HXl := Lib.hid hXl
 have HX1 := Lib.hid hX1
 have HXc := Lib.hid hXc
 clear hX hXl hX1 hXc
 have HN := Lib.hid hn
 have HSZ := Lib.hid hsz
 clear hn hsz
 have HSP := Lib.hid (splice_b64 l)
 go_enter Tryz.func166,Tryz.ntmps166
 go_wp2_with (with_reducible refine wpList_copy_splice rfl (.tmp 4) (.tmp 5) 30 30 rfl 5 Tryz.underlying30 HSZ.out (some ⟨w.heap.size + 1,0,none⟩) p 64 64 l.length cap rfl rfl (w.heap.size + 1) 0 z64 140 (heap_alloc2_new _ _ _) X HXl.out ?c1 ?c2 HX1.out (w.heap.size + 1) _ (Below.refl _ _) (Nat.le_refl _) ?_)
 case c2 => rw [HXl.out,show z64.length = 64 by simp [z64]]; have : Nat.min l.length 64 ≤ 64 := Nat.min_le_right _ _; omega
 case c1 =>
  intro h0
  obtain ⟨ad,hp,hc⟩ := HXc.out h0
  refine ⟨ad,hp,fun j v hv => ?_⟩
  obtain ⟨h1,h2⟩ := hc j v hv
  rw [← h1]
  have hb2 : Below w.heap.size w ((w.alloc (.cells z64.toArray 140)).alloc (.cells z64.toArray 140)) := ((Below.refl _ _).alloc (Nat.le_refl _) _).alloc (by simp) _
  exact hb2.cell (p := ad.add j) (by have : (ad.add j).block = ad.block := by unfold Addr.add; split <;> rfl
                                     omega)
 intro w1 hg1 hb1
 have hres : Hid (w1.heap[w.heap.size]? = some (.cells z64.toArray 140)) := by
  have := hb1.block w.heap.size (by omega)
  rw [this]
  exact heap_alloc2_old _ _ _
 have hbw : Below w.heap.size w w1 := ((((Below.refl _ _).alloc (Nat.le_refl _) _).alloc (by simp) _).trans (hb1.mono (by omega)))
 have hg2 : Hid (w1.heap[w.heap.size + 1]? = some (.cells (b64 l).toArray 140)) := Lib.hid (by rw [hg1.out,HX.out,HSP.out])
 have HC : Hid ((Tryz.prog.info? 140).map (·.size) = some (b64 l).toArray.size) := Lib.hid (by rw [HN.out]; simp [b64])
 have HC2 : Hid (z64.toArray.size = (b64 l).toArray.size) := Lib.hid (by simp [b64,z64])
 have HO := Lib.hid (b64_one l)
 clear hg1 hb1 HSP HX HX1 HXl HXc
 go_wp2_with (first | (with_reducible refine wpList_load_row rfl 140 (.tmp 3) rfl (w.heap.size + 1) rfl 140 _ (0,0) _ hg2.out Tryz.underlying140 rfl HC.out ?_) | (with_reducible refine wpList_store_row rfl 140 (.tmp 2) (.tmp 7) rfl w.heap.size (b64 l).toArray rfl rfl 140 _ hres.out HC.out HC2.out HO.out ?_))
 refine bodyPost_ret (results_cell_row rfl _ _ w.heap.size 140 (b64 l).toArray (0,0) _ rfl (setRow_heap w1 w.heap.size _ _ _ _ hres.out) Tryz.underlying140 rfl HC.out) rfl ⟨rfl,below_setRow hbw (Nat.le_refl _) _⟩
end Go.Proofs.YtpoinibckmbfcaaGreatDoor.ShaT
namespace Go.Proofs.YtpoinibckmbfcaaGreatDoor.ShaT
open Go.RowKit Kit ShaMath
set_option linter.unusedVariables false
set_option maxRecDepth 100000
theorem info_8 : (Tryz.prog.info? 168).map (fun i => (i.zero,i.size)) = some (some (.agg (row .u32 8 fun _ => 0)),8) := by kernel_rfl
set_option maxHeartbeats 1000000 in
theorem told_any (s : W8) (w : World) (hs : s.Ok) :
  Calls Tryz.prog 167 #[.agg (row .u32 8 s.get)] w fun e w' => e = .returned (.agg (row .u8 32 (tb s))) ∧ Below w.heap.size w w' := by
 obtain ⟨hz,hn⟩ := zero_of_info info_32
 have HN := Lib.hid hn
 have H8 := Lib.hid (zero_of_info info_8).2
 clear hn
 go_enter Tryz.func167,Tryz.ntmps167
 go_wp2_with (with_reducible refine wpList_load_arr rfl 168 (.tmp 1) rfl w.heap.size rfl .u32 8 168 s.get ((Arr.new.al _).al _) _ Tryz.underlying168 rfl H8 ?_)
 go_loopw [7] (fun i wr => ∃ k : Nat,k ≤ 8 ∧ i = .int .i64 k ∧ Below w.heap.size w wr ∧ ToldRel s w k wr) (fun i _ => 8 - (intOf i).toNat)
 case atStart => exact ⟨0,by decide,rfl,below3 _ _ _ _,Arr.new1.al _,_,Arr.new2,fun j hj => by omega⟩
 case round =>
  obtain ⟨k,hk,rfl,hb,hR0,f,hR,hf⟩ := hrel
  have HF := Lib.hid hf
  clear hf
  by_cases hlt : k < 8
  · have hix := run_index_row (P := Tryz.prog) 168 167 8 .u32 s.get k Tryz.underlying168 size_u32 agg_u32 hlt
    have c0 := hR.at_ (4 * k) (by omega)
    have c1 := hR.at_ (4 * k + 1) (by omega)
    have c2 := hR.at_ (4 * k + 2) (by omega)
    have c3 := hR.at_ (4 * k + 3) (by omega)
    have z0 := hR.frz (4 * k)
    have z1 := hR.frz (4 * k + 1)
    have z2 := hR.frz (4 * k + 2)
    have z3 := hR.frz (4 * k + 3)
    go_wp2
    go_roundw
    case rel => exact ⟨k + 1,by omega,by go_num,(((hb.setCell (by simp; omega) _).setCell (by simp; omega) _).setCell (by simp; omega) _).setCell (by simp; omega) _,told_step hR0 hR HF.out⟩
    case measure => simp [intOf]; omega
  · have hR2 : Arr wr (w.heap.size + 1 + 1) .u8 32 89 (tb s) := hR.congr fun j hj => HF.out j (by omega)
    clear HF hR
    go_wp2_with (first | (with_reducible refine wpList_load_arr rfl 89 (.tmp 3) rfl (w.heap.size + 1 + 1) rfl .u8 32 89 (tb s) hR2 _ Tryz.underlying89 rfl HN ?_) | (with_reducible refine wpList_store_arr rfl 89 (.tmp 2) (.tmp 38) rfl (w.heap.size + 1) .u8 32 (tb s) rfl rfl 89 _ hR0 HN ?_))
    exact bodyPost_ret (results_arr rfl _ _ (w.heap.size + 1) 89 .u8 32 (tb s) _ rfl (hR0.setRow _) Tryz.underlying89 rfl HN) rfl ⟨rfl,below_setRow hb (by omega) _⟩
end Go.Proofs.YtpoinibckmbfcaaGreatDoor.ShaT
namespace Go.Proofs.YtpoinibckmbfcaaGreatDoor.ShaT
open Go.RowKit Kit ShaMath
set_option linter.unusedVariables false
set_option maxRecDepth 100000
theorem round_c (s : W8) (x : Nat) (w : World) (hs : s.Ok) :
  Calls Tryz.prog 182 #[.agg (row .u32 8 s.get),.int .u32 x] w fun en w' => en = .returned (.agg (row .u32 8 (rnd s x).get)) ∧ Below w.heap.size w w' := by
 obtain ⟨a,b,c,d,e,f,g,h⟩ := s
 have H := round_any a b c d e f g h x w hs.a hs.b hs.c hs.e hs.f hs.g
 rw [c8_row] at H
 rw [row_lit]
 exact H
structure Tabs (w : World) : Prop where
 h : Tb w 2 .u32 8 H0.get
 k : Tb w 5 .u32 64 kAt
theorem Tabs.keep {w w' : World} (h : Tabs w) (hb : Below w.heap.size w w') : Tabs w' := ⟨h.h.keep hb,h.k.keep hb⟩
theorem info_w64 : (Tryz.prog.info? 170).map (fun i => (i.zero,i.size)) = some (some (.agg (row .u32 64 fun _ => 0)),64) := by kernel_rfl
theorem zero8 (W : World) (o o' o'' : Obj) : Arr ((((W.alloc o).alloc o').alloc o'').alloc (.cells #[.int .u32 0,.int .u32 0,.int .u32 0,.int .u32 0,.int .u32 0,.int .u32 0,.int .u32 0,.int .u32 0] 168)) (W.heap.size + 1 + 1 + 1) .u32 8 168 (fun _ => 0) := by
 rw [show (#[.int .u32 0,.int .u32 0,.int .u32 0,.int .u32 0,.int .u32 0,.int .u32 0,.int .u32 0,.int .u32 0] : Array Value) = row .u32 8 (fun _ => 0) from rfl]
 exact Arr.new3
theorem zero8' (W : World) (o o' o'' : Obj) : Arr ((((W.alloc o).alloc o').alloc (.cells #[.int .u32 0,.int .u32 0,.int .u32 0,.int .u32 0,.int .u32 0,.int .u32 0,.int .u32 0,.int .u32 0] 168)).alloc o'') (W.heap.size + 1 + 1) .u32 8 168 (fun _ => 0) := by
 rw [show (#[.int .u32 0,.int .u32 0,.int .u32 0,.int .u32 0,.int .u32 0,.int .u32 0,.int .u32 0,.int .u32 0] : Array Value) = row .u32 8 (fun _ => 0) from rfl]
 exact Arr.new2.al _
structure MixRel (s : W8) (l : List UInt8) (w : World) (r : W8) (f : Nat → Nat) (wr : World) : Prop where
 b : Below w.heap.size w wr
 s : Arr wr w.heap.size .u32 8 168 f
 l : Arr wr (w.heap.size + 1) .u32 64 170 (wAt l)
 z : Arr wr (w.heap.size + 1 + 1) .u32 8 168 (fun _ => 0)
 r : Arr wr (w.heap.size + 1 + 1 + 1) .u32 8 168 r.get
theorem MixRel.next {s : W8} {l : List UInt8} {w : World} {r : W8} {f : Nat → Nat} {wr w' : World} (h : MixRel s l w r f wr) (hb : Below wr.heap.size wr w') (r' : W8) : MixRel s l w r' f (w'.setRow (w.heap.size + 1 + 1 + 1) (row .u32 8 r'.get)) :=
 ⟨below_setRow (h.b.trans (hb.mono h.b.size)) (by omega) _,(h.s.keep hb h.s.lt).setRow_ne _ (by omega),(h.l.keep hb h.l.lt).setRow_ne _ (by omega),(h.z.keep hb h.z.lt).setRow_ne _ (by omega),(h.r.keep hb h.r.lt).setRow _⟩
theorem MixRel.sum {s : W8} {l : List UInt8} {w : World} {r : W8} {f : Nat → Nat} {wr : World} (h : MixRel s l w r f wr) (k v : Nat) : MixRel s l w r (upd f k v) (wr.setCell ⟨w.heap.size,k,none⟩ (.int .u32 (v : Int))) :=
 ⟨h.b.setCell (by simp) _,h.s.set _ _,h.l.other _ _ (by simp),h.z.other _ _ (by simp; omega),h.r.other _ _ (by simp; omega)⟩
theorem MixRel.drew {s : W8} {l : List UInt8} {w : World} {r : W8} {f : Nat → Nat} {wr : World} (h : MixRel s l w r f wr) : MixRel s l w r f wr.drew := ⟨h.b.drew,h.s,h.l,h.z,h.r⟩
set_option maxHeartbeats 1000000 in
theorem mix_any (s : W8) (l : List UInt8) (w : World) (hs : s.Ok) (hg : Tabs w) :
  Calls Tryz.prog 164 #[.agg (row .u32 8 s.get),.agg (row .u32 64 (wAt l))] w fun e w' => e = .returned (.agg (row .u32 8 (blk s l).get)) ∧ Below w.heap.size w w' := by
 have H8 := Lib.hid (zero_of_info info_8).2
 go_enter Tryz.func164,Tryz.ntmps164
 go_wp2_with (first | (with_reducible refine wpList_load_arr rfl 168 (.tmp 2) rfl w.heap.size rfl .u32 8 168 s.get ((Arr.new.al _).al _) _ Tryz.underlying168 rfl H8 ?_) | (with_reducible refine wpList_store_arr rfl 168 (.tmp 5) (.tmp 8) rfl (w.heap.size + 1 + 1 + 1) .u32 8 s.get rfl rfl 168 _ (zero8 _ _ _ _) H8 ?_))
 go_loopw [9] (fun i wr => ∃ k : Nat,k ≤ 64 ∧ i = .int .i64 k ∧ MixRel s l w (rounds s l k) s.get wr) (fun i _ => 64 - (intOf i).toNat)
 case atStart => exact ⟨0,by decide,rfl,below_setRow (below4 _ _ _ _ _) (by omega) _,(((Arr.new.al _).al _).al _).setRow_ne _ (by omega),((Arr.new1.al _).al _).setRow_ne _ (by omega),(zero8' _ _ _ _).setRow_ne _ (by omega),(zero8 _ _ _ _).setRow _⟩
 case round =>
  obtain ⟨k,hk,rfl,hR⟩ := hrel
  by_cases hlt : k < 64
  · have c1 := (hg.keep hR.b).k.at_ k hlt
    have c2 := hR.l.at_ k hlt
    have hv : IntKind.u32.wrap ((kAt k : Int) + (wAt l k : Int)) = (kw l k : Int) := by rw [IntKind.wrap_u32]; exact kw_val l k
    have HO := Lib.hid (rounds_ok hs l k)
    have HS := Lib.hid (ShaMath.rounds_succ s l k)
    go_wp2_with fail
    refine wp_region_still_tail 8 (by kernel_rfl) (by kernel_rfl) ?_
    simp only [List.take_succ_cons,List.take_zero,List.drop_succ_cons,List.drop_zero]
    refine wpStill_step (fun K hK => ?_)
    rw [if_pos (by rfl)]
    with_reducible refine still_load_arr 168 (.tmp 5) rfl (w.heap.size + 1 + 1 + 1) rfl .u32 8 168 (rounds s l k).get ?hh _ Tryz.underlying168 rfl H8 (hK _ ?_)
    case hh => exact hR.r
    clear hK K
    repeat still_step
    refine wpStill_nil ?_
    change wpList _ _ _ _ _ wr.drew
    have hRd := hR.drew
    clear c1 c2 hR
    generalize wr.drew = w2 at hRd ⊢
    go_wp2_with (first | (go_at_call 182; (with_reducible refine (round_c (rounds s l k) (kw l k) _ HO.out).mono ?_); rintro e w3 ⟨rfl,hb⟩; have hb3 := Lib.hid hb; clear hb) | (with_reducible refine wpList_store_arr rfl 168 (.tmp 5) (.tmp 20) rfl (w.heap.size + 1 + 1 + 1) .u32 8 (rnd (rounds s l k) (kw l k)).get rfl rfl 168 _ (hRd.r.keep hb3.out hRd.r.lt) H8 ?_))
    go_roundw
    case rel => exact ⟨k + 1,by omega,by go_num,by rw [HS.out]; exact hRd.next hb3.out _⟩
    case measure => simp [intOf]; omega
  · obtain rfl : k = 64 := by omega
    obtain ⟨r,hr⟩ : ∃ r,r = rounds s l 64 := ⟨_,rfl⟩
    rw [← hr] at hR
    have HRr := Lib.hid hr
    clear hr
    rw [show ((64 : Nat) : Int) = 64 from rfl]
    go_wp2_with fail
    go_loopw [22] (fun i wr => ∃ k : Nat,k ≤ 8 ∧ i = .int .i64 k ∧ ∃ f,MixRel s l w r f wr ∧ (∀ j,k ≤ j → f j = s.get j) ∧ (∀ j,j < k → f j = (blk s l).get j)) (fun i _ => 8 - (intOf i).toNat)
    case atStart => exact ⟨0,by decide,rfl,s.get,hR,fun j _ => rfl,fun j hj => by omega⟩
    case round =>
     obtain ⟨k,hk,rfl,f,hF,hf1,hf2⟩ := hrel
     have HF1 := Lib.hid hf1
     have HF2 := Lib.hid hf2
     by_cases hlt : k < 8
     · have c1 := hF.s.at_ k hlt
       have c2 := hF.r.at_ k hlt
       have hv := blk_val HRr.out hf1
       clear hf1 hf2
       go_wp2_with fail
       go_still_tail 8,(by kernel_rfl)
       change wpList _ _ _ _ _ wr.drew
       have hRd := hF.drew
       clear c1 c2 hF
       generalize wr.drew = w2 at hRd ⊢
       have c1 := hRd.s.at_ k hlt
       have z1 := hRd.s.frz k
       go_wp2_with fail
       go_roundw
       case rel => exact ⟨k + 1,by omega,by go_num,_,hRd.sum k _,fun j hj => by rw [upd_other _ _ _ _ (by omega)]; exact HF1.out j (by omega),fun j hj => by
        by_cases e : j = k
        · subst e; exact upd_same _ _ _
        · rw [upd_other _ _ _ _ e]; exact HF2.out j (by omega)⟩
       case measure => simp [intOf]; omega
     · have hs2 : Arr wr w.heap.size .u32 8 168 (blk s l).get := hF.s.congr fun j hj => hf2 j (by omega)
       clear hf1 hf2 HF1 HF2
       go_wp2_with (first | (with_reducible refine wpList_load_arr rfl 168 (.tmp 2) rfl w.heap.size rfl .u32 8 168 (blk s l).get hs2 _ Tryz.underlying168 rfl H8 ?_) | (with_reducible refine wpList_store_arr rfl 168 (.tmp 4) (.tmp 34) rfl (w.heap.size + 1 + 1) .u32 8 (blk s l).get rfl rfl 168 _ hF.z H8 ?_))
       exact bodyPost_ret (results_arr rfl _ _ (w.heap.size + 1 + 1) 168 .u32 8 (blk s l).get _ rfl (hF.z.setRow _) Tryz.underlying168 rfl H8) rfl ⟨rfl,below_setRow hF.b (by omega) _⟩
end Go.Proofs.YtpoinibckmbfcaaGreatDoor.ShaT
namespace Go.Proofs.YtpoinibckmbfcaaGreatDoor.ShaT
open Go.RowKit Kit ShaMath
set_option linter.unusedVariables false
set_option maxRecDepth 100000
structure SpRel (l : List UInt8) (w : World) (f : Nat → Nat) (wr : World) : Prop where
 b : Below w.heap.size w wr
 l : Arr wr w.heap.size .u8 64 140 (byte l)
 z : Arr wr (w.heap.size + 1) .u32 64 170 (fun _ => 0)
 r : Arr wr (w.heap.size + 1 + 1) .u32 64 170 f
theorem SpRel.put {l : List UInt8} {w : World} {f : Nat → Nat} {wr : World} (h : SpRel l w f wr) (k v : Nat) : SpRel l w (upd f k v) (wr.setCell ⟨w.heap.size + 1 + 1,k,none⟩ (.int .u32 (v : Int))) :=
 ⟨h.b.setCell (by simp; omega) _,h.l.other _ _ (by simp; omega),h.z.other _ _ (by simp),h.r.set _ _⟩
theorem SpRel.drew {l : List UInt8} {w : World} {f : Nat → Nat} {wr : World} (h : SpRel l w f wr) : SpRel l w f wr.drew := ⟨h.b.drew,h.l,h.z,h.r⟩
theorem SpRel.drewN {l : List UInt8} {w : World} {f : Nat → Nat} {wr : World} (h : SpRel l w f wr) (q : Nat) : SpRel l w f (wr.drewN q) := by
 refine ⟨h.b.trans ⟨rfl,rfl,rfl,Nat.le_refl _,fun _ _ => rfl⟩,h.l.drewN q,h.z.drewN q,h.r.drewN q⟩
set_option maxHeartbeats 1000000 in
theorem spread_any (l : List UInt8) (w : World) :
  Calls Tryz.prog 165 #[.agg (row .u8 64 (byte l))] w fun e w' => e = .returned (.agg (row .u32 64 (wAt l))) ∧ Below w.heap.size w w' := by
 obtain ⟨hz,hn⟩ := zero_of_info info_w64
 have HN := Lib.hid hn
 clear hn
 go_enter Tryz.func165,Tryz.ntmps165
 go_wp2_with fail
 go_loopw [10] (fun i wr => ∃ k : Nat,k ≤ 16 ∧ i = .int .i64 k ∧ ∃ f,SpRel l w f wr ∧ UpTo l f k) (fun i _ => 16 - (intOf i).toNat)
 case atStart => exact ⟨0,by decide,rfl,_,⟨below3 _ _ _ _,(Arr.new.al _).al _,Arr.new1.al _,Arr.new2⟩,fun j hj => by omega⟩
 case round =>
  obtain ⟨k,hk,rfl,f,hR,hU⟩ := hrel
  by_cases hlt : k < 16
  · have c0 := hR.l.at_ (4 * k) (by omega)
    have c1 := hR.l.at_ (4 * k + 1) (by omega)
    have c2 := hR.l.at_ (4 * k + 2) (by omega)
    have c3 := hR.l.at_ (4 * k + 3) (by omega)
    have b0 := byte_lt l (4 * k)
    have b1 := byte_lt l (4 * k + 1)
    have b2 := byte_lt l (4 * k + 2)
    have b3 := byte_lt l (4 * k + 3)
    have hv := word_val l k hlt
    have m0 : IntKind.i64.wrap (4 * (k : Int)) = 4 * (k : Int) := IntWalk.i64_in _ (by omega)
    have m1 : IntKind.i64.wrap (4 * (k : Int) + 1) = 4 * (k : Int) + 1 := IntWalk.i64_in _ (by omega)
    have m2 : IntKind.i64.wrap (4 * (k : Int) + 2) = 4 * (k : Int) + 2 := IntWalk.i64_in _ (by omega)
    have m3 : IntKind.i64.wrap (4 * (k : Int) + 3) = 4 * (k : Int) + 3 := IntWalk.i64_in _ (by omega)
    have n0 : (4 * (k : Int)).toNat = 4 * k := by omega
    have n1 : (4 * (k : Int) + 1).toNat = 4 * k + 1 := by omega
    have n2 : (4 * (k : Int) + 2).toNat = 4 * k + 2 := by omega
    have n3 : (4 * (k : Int) + 3).toNat = 4 * k + 3 := by omega
    have p0 : 0 ≤ 4 * (k : Int) ∧ 4 * (k : Int) < 64 := by omega
    have p1 : 0 ≤ 4 * (k : Int) + 1 ∧ 4 * (k : Int) + 1 < 64 := by omega
    have p2 : 0 ≤ 4 * (k : Int) + 2 ∧ 4 * (k : Int) + 2 < 64 := by omega
    have p3 : 0 ≤ 4 * (k : Int) + 3 ∧ 4 * (k : Int) + 3 < 64 := by omega
    have p4 : 0 ≤ (k : Int) ∧ (k : Int) < 64 := by omega
    go_wp2_with fail
    go_still_tail 31,(by kernel_rfl)
    change wpList _ _ _ _ _ wr.drew
    have hRd := hR.drew
    clear c0 c1 c2 c3 hR m0 m1 m2 m3 n0 n1 n2 n3 p0 p1 p2 p3 p4
    generalize wr.drew = w2 at hRd ⊢
    have c1 := hRd.r.at_ k (by omega)
    have z1 := hRd.r.frz k
    go_wp2_with fail
    go_roundw
    case rel => exact ⟨k + 1,by omega,by go_num,_,hRd.put k _,hU.next⟩
    case measure => simp [intOf]; omega
  · obtain rfl : k = 16 := by omega
    rw [show ((16 : Nat) : Int) = 16 from rfl]
    go_wp2_with fail
    go_loopw [5] (fun i wr => ∃ k : Nat,16 ≤ k ∧ k ≤ 64 ∧ i = .int .i64 k ∧ ∃ f,SpRel l w f wr ∧ UpTo l f k) (fun i _ => 64 - (intOf i).toNat)
    case atStart => exact ⟨16,by decide,by decide,rfl,f,hR,hU⟩
    case round =>
     obtain ⟨k,hk0,hk,rfl,f,hR,hU⟩ := hrel
     by_cases hlt : k < 64
     · have c15 := hR.r.at_ (k - 15) (by omega)
       have c2 := hR.r.at_ (k - 2) (by omega)
       rw [hU (k - 15) (by omega)] at c15
       rw [hU (k - 2) (by omega)] at c2
       have v1 := smallX_val (wAt l (k - 15)) (wAt_lt l _ (by omega))
       have v2 := smallY_val (wAt l (k - 2)) (wAt_lt l _ (by omega))
       go_wp2_with fail
       go_quiet (fail)
       have hR2 := hR.drewN nq
       clear c15 c2 hR
       generalize wr.drewN nq = w2 at hR2 ⊢
       go_wp2_with (go_at_call 183; (first | (with_reducible refine (turn_7 _ _ (wAt_lt l _ (by omega))).mono ?_) | (with_reducible refine (turn_18 _ _ (wAt_lt l _ (by omega))).mono ?_) | (with_reducible refine (turn_17 _ _ (wAt_lt l _ (by omega))).mono ?_) | (with_reducible refine (turn_19 _ _ (wAt_lt l _ (by omega))).mono ?_)); rintro e w' ⟨rfl,rfl⟩)
       clear v1 v2
       have c7 := hR2.r.at_ (k - 7) (by omega)
       have c16 := hR2.r.at_ (k - 16) (by omega)
       rw [hU (k - 7) (by omega)] at c7
       rw [hU (k - 16) (by omega)] at c16
       have hnext := Lib.hid (next_of l k hk0 hlt)
       have s1 := wrap_add (smallX (wAt l (k - 15))) (wAt l (k - 7))
       obtain ⟨x1,hx1⟩ : ∃ x,x = (smallX (wAt l (k - 15)) + wAt l (k - 7)) % 4294967296 := ⟨_,rfl⟩
       rw [← hx1] at s1
       have s2 := wrap_add x1 (smallY (wAt l (k - 2)))
       obtain ⟨x2,hx2⟩ : ∃ x,x = (x1 + smallY (wAt l (k - 2))) % 4294967296 := ⟨_,rfl⟩
       rw [← hx2] at s2
       have s3 := wrap_add x2 (wAt l (k - 16))
       rw [show (x2 + wAt l (k - 16)) % 4294967296 = wAt l k by rw [hx2,hx1]; exact hnext.out] at s3
       clear hx1 hx2 hnext
       have m0 : IntKind.i64.wrap ((k : Int) - 7) = (k : Int) - 7 := IntWalk.i64_in _ (by omega)
       have m1 : IntKind.i64.wrap ((k : Int) - 16) = (k : Int) - 16 := IntWalk.i64_in _ (by omega)
       have n0 : ((k : Int) - 7).toNat = k - 7 := by omega
       have n1 : ((k : Int) - 16).toNat = k - 16 := by omega
       have p0 : 0 ≤ (k : Int) - 7 ∧ (k : Int) - 7 < 64 := by omega
       have p1 : 0 ≤ (k : Int) - 16 ∧ (k : Int) - 16 < 64 := by omega
       have p2 : 7 ≤ (k : Int) ∧ 16 ≤ (k : Int) ∧ (k : Int) < 64 ∧ 0 ≤ (k : Int) := by omega
       have p3 : (k : Int) - 7 < 64 ∧ (k : Int) - 16 < 64 := by omega
       go_wp2_with fail
       go_still_tail 15,(by kernel_rfl)
       change wpList _ _ _ _ _ w2.drew
       have hRd := hR2.drew
       clear c7 c16 m0 m1 n0 n1 p0 p1 p2 p3 s1 s2 s3 hR2
       generalize w2.drew = w3 at hRd ⊢
       have c1 := hRd.r.at_ k hlt
       have z1 := hRd.r.frz k
       go_wp2_with fail
       go_roundw
       case rel => exact ⟨k + 1,by omega,by omega,by go_num,_,hRd.put k _,hU.next⟩
       case measure => simp [intOf]; omega
     · have hs2 : Arr wr (w.heap.size + 1 + 1) .u32 64 170 (wAt l) := hR.r.congr fun j hj => hU j (by omega)
       have HB := Lib.hid hR.b
       have hZ := hR.z
       clear hU hR
       go_wp2_with (first | (with_reducible refine wpList_load_arr rfl 170 (.tmp 3) rfl (w.heap.size + 1 + 1) rfl .u32 64 170 (wAt l) hs2 _ Tryz.underlying170 rfl HN ?_) | (with_reducible refine wpList_store_arr rfl 170 (.tmp 2) (.tmp 88) rfl (w.heap.size + 1) .u32 64 (wAt l) rfl rfl 170 _ hZ HN ?_))
       exact bodyPost_ret (results_arr rfl _ _ (w.heap.size + 1) 170 .u32 64 (wAt l) _ rfl (hZ.setRow _) Tryz.underlying170 rfl HN) rfl ⟨rfl,below_setRow HB.out (by omega) _⟩
end Go.Proofs.YtpoinibckmbfcaaGreatDoor.ShaT
namespace Go.Proofs.YtpoinibckmbfcaaGreatDoor.ShaT
open Go.RowKit Kit ShaMath
set_option linter.unusedVariables false
set_option maxRecDepth 100000
theorem block_arr (p : Option Addr) (l : List UInt8) (cap : Nat) (w : World) (hs : Bs w p l) (hl : l.length ≤ maxLen) :
  Calls Tryz.prog 166 #[.slice p l.length cap] w fun e w' => e = .returned (.agg (row .u8 64 (byte l))) ∧ Below w.heap.size w w' := block_any p l cap w hs hl
theorem zero8_1 (W : World) (o : Obj) : Arr ((W.alloc o).alloc (.cells #[.int .u32 0,.int .u32 0,.int .u32 0,.int .u32 0,.int .u32 0,.int .u32 0,.int .u32 0,.int .u32 0] 168)) (W.heap.size + 1) .u32 8 168 (fun _ => 0) := by
 rw [show (#[.int .u32 0,.int .u32 0,.int .u32 0,.int .u32 0,.int .u32 0,.int .u32 0,.int .u32 0,.int .u32 0] : Array Value) = row .u32 8 (fun _ => 0) from rfl]
 exact Arr.new1
structure FinRel (w : World) (g7 : Nat) (s : W8) (f : Nat → Nat) (wr : World) : Prop where
 b : Below w.heap.size w wr
 g : w.heap.size + 1 < g7
 s : Arr wr w.heap.size .u32 8 168 s.get
 z : Arr wr (w.heap.size + 1) .u32 8 168 (fun _ => 0)
 r : Arr wr g7 .u8 64 140 f
theorem FinRel.drew {w : World} {g7 : Nat} {s : W8} {f : Nat → Nat} {wr : World} (h : FinRel w g7 s f wr) : FinRel w g7 s f wr.drew := ⟨h.b.drew,h.g,h.s,h.z,h.r⟩
theorem FinRel.put {w : World} {g7 : Nat} {s : W8} {f : Nat → Nat} {wr : World} (h : FinRel w g7 s f wr) (k v : Nat) : FinRel w g7 s (upd f k v) (wr.setCell ⟨g7,k,none⟩ (.int .u8 (v : Int))) := by
 have := h.g
 exact ⟨h.b.setCell (by simp; omega) _,h.g,h.s.other _ _ (by simp; omega),h.z.other _ _ (by simp; omega),h.r.set _ _⟩
theorem FinRel.keep {w : World} {g7 : Nat} {s : W8} {f : Nat → Nat} {wr w' : World} (h : FinRel w g7 s f wr) (hb : Below wr.heap.size wr w') : FinRel w g7 s f w' :=
 ⟨h.b.trans (hb.mono h.b.size),h.g,h.s.keep hb h.s.lt,h.z.keep hb h.z.lt,h.r.keep hb h.r.lt⟩
theorem FinRel.words {w : World} {g7 : Nat} {s : W8} {f : Nat → Nat} {wr : World} (h : FinRel w g7 s f wr) (s' : W8) : FinRel w g7 s' f (wr.setRow w.heap.size (row .u32 8 s'.get)) := by
 have := h.g
 exact ⟨below_setRow h.b (Nat.le_refl _) _,h.g,h.s.setRow _,h.z.setRow_ne _ (by omega),h.r.setRow_ne _ (by omega)⟩
theorem FinRel.bytes {w : World} {g7 : Nat} {s : W8} {f : Nat → Nat} {wr : World} (h : FinRel w g7 s f wr) (f' : Nat → Nat) : FinRel w g7 s f' (wr.setRow g7 (row .u8 64 f')) := by
 have := h.g
 exact ⟨below_setRow h.b (by omega) _,h.g,h.s.setRow_ne _ (by omega),h.z.setRow_ne _ (by omega),h.r.setRow _⟩
def Fin2 (w : World) (r : W8) (w' : World) : Prop := Below w.heap.size w w' ∧ Arr w' (w.heap.size + 1) .u32 8 168 r.get
set_option maxHeartbeats 2000000 in
theorem finish_any (s : W8) (p : Option Addr) (l : List UInt8) (cap all : Nat) (w : World) (hs : s.Ok) (hb : Bs w p l) (hl : l.length < 64) (ha : all ≤ 281474976710656) (hg : Tabs w) :
  Calls Tryz.prog 168 #[.agg (row .u32 8 s.get),.slice p l.length cap,.int .i64 all] w fun e w' => e = .returned (.agg (row .u32 8 (fin s l all).get)) ∧ Below w.heap.size w w' := by
 obtain ⟨hz,hn⟩ := zero_of_info info_b64'
 have HN := Lib.hid hn
 clear hn
 have H8 := Lib.hid (zero_of_info info_8).2
 go_enter Tryz.func168,Tryz.ntmps168
 go_wp2_with fail
 refine (block_arr p l cap _ (hb.keep (below2 _ _ _)) (by unfold maxLen; omega)).mono ?_
 rintro e w1 ⟨rfl,hb1⟩
 have hS1 : Arr w1 w.heap.size .u32 8 168 s.get := (Arr.new.al _).keep hb1 (by simp; omega)
 have hZ1 : Arr w1 (w.heap.size + 1) .u32 8 168 (fun _ => 0) := (zero8_1 _ _).keep hb1 (by simp)
 have hB1 : Below w.heap.size w w1 := (below2 _ _ _).trans (hb1.mono (by simp; omega))
 have hgt : w.heap.size + 1 < w1.heap.size := by have := hb1.size; simp at this; omega
 clear hb1
 have hR1 : FinRel w w1.heap.size s (fun _ => 0) (w1.alloc (.cells (row .u8 64 fun _ => 0) 140)) := ⟨hB1.alloc hB1.size _,hgt,hS1.al _,hZ1.al _,Arr.new⟩
 have hv := fun j => snoc_at l j
 by_cases h56 : l.length < 56
 · go_wp2_with ((with_reducible refine wpList_store_arr rfl 140 (.tmp 7) (.tmp 11) rfl w1.heap.size .u8 64 (byte l) rfl rfl 140 _ Arr.new HN ?_); have hR2 := hR1.bytes (byte l); generalize World.setRow _ _ _ = w2 at hR2 ⊢; have c1 := hR2.r.at_ l.length hl; have z1 := hR2.r.frz l.length)
   · have hRx : FinRel w w1.heap.size s (byte (l ++ [128])) (w2.setCell ⟨w1.heap.size,l.length,none⟩ (.int .u8 128)) := by
      have h := hR2.put l.length 128
      rwa [show upd (byte l) l.length 128 = byte (l ++ [128]) from funext (fun j => snoc_at l j)] at h
     clear c1 z1 hR2
     generalize World.setCell _ _ _ = wx at hRx ⊢
     go_loopw [27] (fun i wr => ∃ k : Nat,k ≤ 8 ∧ i = .int .i64 k ∧ ∃ f,FinRel w w1.heap.size (s) f wr ∧ EndTo (byte (l ++ [128])) all f k) (fun i _ => 8 - (intOf i).toNat)
     case atStart => exact ⟨0,by decide,rfl,_,hRx,fun j hj => by rw [if_neg (by omega)]⟩
     case round =>
      obtain ⟨k,hk,rfl,f,hF,hE⟩ := hrel
      by_cases hlt : k < 8
      · have c1 := hF.r.at_ (63 - k) (by omega)
        have z1 := hF.r.frz (63 - k)
        go_wp2_with fail
        go_roundw
        case rel => exact ⟨k + 1,by omega,by go_num,_,by rw [len_val]; exact hF.put (63 - k) _,hE.next hlt⟩
        case measure => simp [intOf]; omega
      · obtain rfl : k = 8 := by omega
        rw [show ((8 : Nat) : Int) = 8 from rfl]
        have hG : FinRel w w1.heap.size (s) (byte (l ++ [128] ++ List.replicate (55 - l.length) 0 ++ be8 (8 * all))) wr := ⟨hF.b,hF.g,hF.s,hF.z,hF.r.congr fun j hj => (hE.last j hj).trans (end_short l all j h56 hj)⟩
        have HFIN := Lib.hid (fin_short (s := s) (all := all) h56)
        obtain ⟨LL,hLL⟩ : ∃ LL,LL = l ++ [128] ++ List.replicate (55 - l.length) 0 ++ be8 (8 * all) := ⟨_,rfl⟩
        rw [← hLL] at hG
        have HLL := Lib.hid hLL
        clear hLL hF hE
        go_wp2_with fail
        refine wp_frame (Fin2 w (blk (s) LL)) ?_
        apply Exists.intro
        apply And.intro
        case left =>
         have hRd := hG.drew
         refine wp_region_any (by kernel_rfl) ?_
         change wpAny _ _ _ _ _ _ _ (World.drew _)
         refine wpAny_ready (rs := [0,1]) (by kernel_rfl) (by simp) ?_
         refine AllReady.cons rfl (fun K hK => ?_) ?_
         · with_reducible refine step_load_arr rfl 168 (.tmp 3) rfl w.heap.size rfl .u32 8 168 (W8.get (s)) ?hh _ Tryz.underlying168 rfl H8 ?_
           case hh => first | exact hRd.s | exact (hRd.keep hb3.out).s
           refine hK _ _ ?_
           clear hK K
           refine wpAny_ready (rs := [1]) (by kernel_rfl) (by simp) ?_
           refine AllReady.cons rfl (fun K hK => ?_) ?_
           · with_reducible refine step_load_arr rfl 140 (.tmp 7) rfl w1.heap.size rfl .u8 64 140 (byte LL) hRd.r _ Tryz.underlying140 rfl HN ?_
             refine hK _ _ ?_
             clear hK K
             refine wpAny_ready (rs := [2]) (by kernel_rfl) (by simp) ?_
             refine AllReady.cons rfl (fun K hK => ?_) ?_
             · rw [if_pos (by rfl)]
               go_simp
               refine (spread_any LL _).mono ?_
               rintro e w4 ⟨rfl,hb3⟩
               have hb3 := Lib.hid hb3
               refine hK _ _ ?_
               clear hK K
               refine wpAny_ready (rs := [3]) (by kernel_rfl) (by simp) ?_
               refine AllReady.cons rfl (fun K hK => ?_) ?_
               · rw [if_pos (by rfl)]
                 go_simp
                 refine (mix_any (s) LL _ (hs) ?hh).mono ?_
                 case hh => exact hg.keep (hRd.keep hb3.out).b
                 rintro e w5 ⟨rfl,hb4⟩
                 have hb4 := Lib.hid hb4
                 refine hK _ _ ?_
                 clear hK K
                 refine wpAny_ready (rs := [4]) (by kernel_rfl) (by simp) ?_
                 refine AllReady.cons rfl (fun K hK => ?_) ?_
                 · with_reducible refine step_store_arr rfl rfl 168 (.tmp 6) (.tmp 42) rfl (w.heap.size + 1) .u32 8 (blk (s) LL).get rfl rfl 168 _ ((hRd.keep hb3.out).keep hb4.out).z H8 ?_
                   refine hK _ _ ?_
                   clear hK K
                   refine wpAny_done (by kernel_rfl) ?_ _
                   exact ⟨rfl,rfl,below_setRow ((hRd.keep hb3.out).keep hb4.out).b (by omega) _,((hRd.keep hb3.out).keep hb4.out).z.setRow _⟩
                 exact AllReady.nil
               exact AllReady.nil
             exact AllReady.nil
           exact AllReady.nil
         refine AllReady.cons rfl (fun K hK => ?_) ?_
         · with_reducible refine step_load_arr rfl 140 (.tmp 7) rfl w1.heap.size rfl .u8 64 140 (byte LL) hRd.r _ Tryz.underlying140 rfl HN ?_
           refine hK _ _ ?_
           clear hK K
           refine wpAny_ready (rs := [0,2]) (by kernel_rfl) (by simp) ?_
           refine AllReady.cons rfl (fun K hK => ?_) ?_
           · with_reducible refine step_load_arr rfl 168 (.tmp 3) rfl w.heap.size rfl .u32 8 168 (W8.get (s)) ?hh _ Tryz.underlying168 rfl H8 ?_
             case hh => first | exact hRd.s | exact (hRd.keep hb3.out).s
             refine hK _ _ ?_
             clear hK K
             refine wpAny_ready (rs := [2]) (by kernel_rfl) (by simp) ?_
             refine AllReady.cons rfl (fun K hK => ?_) ?_
             · rw [if_pos (by rfl)]
               go_simp
               refine (spread_any LL _).mono ?_
               rintro e w4 ⟨rfl,hb3⟩
               have hb3 := Lib.hid hb3
               refine hK _ _ ?_
               clear hK K
               refine wpAny_ready (rs := [3]) (by kernel_rfl) (by simp) ?_
               refine AllReady.cons rfl (fun K hK => ?_) ?_
               · rw [if_pos (by rfl)]
                 go_simp
                 refine (mix_any (s) LL _ (hs) ?hh).mono ?_
                 case hh => exact hg.keep (hRd.keep hb3.out).b
                 rintro e w5 ⟨rfl,hb4⟩
                 have hb4 := Lib.hid hb4
                 refine hK _ _ ?_
                 clear hK K
                 refine wpAny_ready (rs := [4]) (by kernel_rfl) (by simp) ?_
                 refine AllReady.cons rfl (fun K hK => ?_) ?_
                 · with_reducible refine step_store_arr rfl rfl 168 (.tmp 6) (.tmp 42) rfl (w.heap.size + 1) .u32 8 (blk (s) LL).get rfl rfl 168 _ ((hRd.keep hb3.out).keep hb4.out).z H8 ?_
                   refine hK _ _ ?_
                   clear hK K
                   refine wpAny_done (by kernel_rfl) ?_ _
                   exact ⟨rfl,rfl,below_setRow ((hRd.keep hb3.out).keep hb4.out).b (by omega) _,((hRd.keep hb3.out).keep hb4.out).z.setRow _⟩
                 exact AllReady.nil
               exact AllReady.nil
             exact AllReady.nil
           refine AllReady.cons rfl (fun K hK => ?_) ?_
           · rw [if_pos (by rfl)]
             go_simp
             refine (spread_any LL _).mono ?_
             rintro e w4 ⟨rfl,hb3⟩
             have hb3 := Lib.hid hb3
             refine hK _ _ ?_
             clear hK K
             refine wpAny_ready (rs := [0]) (by kernel_rfl) (by simp) ?_
             refine AllReady.cons rfl (fun K hK => ?_) ?_
             · with_reducible refine step_load_arr rfl 168 (.tmp 3) rfl w.heap.size rfl .u32 8 168 (W8.get (s)) ?hh _ Tryz.underlying168 rfl H8 ?_
               case hh => first | exact hRd.s | exact (hRd.keep hb3.out).s
               refine hK _ _ ?_
               clear hK K
               refine wpAny_ready (rs := [3]) (by kernel_rfl) (by simp) ?_
               refine AllReady.cons rfl (fun K hK => ?_) ?_
               · rw [if_pos (by rfl)]
                 go_simp
                 refine (mix_any (s) LL _ (hs) ?hh).mono ?_
                 case hh => exact hg.keep (hRd.keep hb3.out).b
                 rintro e w5 ⟨rfl,hb4⟩
                 have hb4 := Lib.hid hb4
                 refine hK _ _ ?_
                 clear hK K
                 refine wpAny_ready (rs := [4]) (by kernel_rfl) (by simp) ?_
                 refine AllReady.cons rfl (fun K hK => ?_) ?_
                 · with_reducible refine step_store_arr rfl rfl 168 (.tmp 6) (.tmp 42) rfl (w.heap.size + 1) .u32 8 (blk (s) LL).get rfl rfl 168 _ ((hRd.keep hb3.out).keep hb4.out).z H8 ?_
                   refine hK _ _ ?_
                   clear hK K
                   refine wpAny_done (by kernel_rfl) ?_ _
                   exact ⟨rfl,rfl,below_setRow ((hRd.keep hb3.out).keep hb4.out).b (by omega) _,((hRd.keep hb3.out).keep hb4.out).z.setRow _⟩
                 exact AllReady.nil
               exact AllReady.nil
             exact AllReady.nil
           exact AllReady.nil
         exact AllReady.nil
        case right =>
         rintro w6 ⟨hb6,hr6⟩
         have hb6 := Lib.hid hb6
         clear hRx hG
         go_wp2_with fail
         exact bodyPost_ret (results_arr rfl _ _ (w.heap.size + 1) 168 .u32 8 (blk (s) LL).get _ rfl hr6 Tryz.underlying168 rfl H8) rfl ⟨by rw [HLL.out,HFIN.out],hb6.out⟩
 · go_wp2_with ((with_reducible refine wpList_store_arr rfl 140 (.tmp 7) (.tmp 11) rfl w1.heap.size .u8 64 (byte l) rfl rfl 140 _ Arr.new HN ?_); have hR2 := hR1.bytes (byte l); generalize World.setRow _ _ _ = w2 at hR2 ⊢; have c1 := hR2.r.at_ l.length hl; have z1 := hR2.r.frz l.length)
   have hR3 : FinRel w w1.heap.size s (byte (l ++ [128])) (w2.setCell ⟨w1.heap.size,l.length,none⟩ (.int .u8 128)) := by
    have h := hR2.put l.length 128
    rwa [show upd (byte l) l.length 128 = byte (l ++ [128]) from funext (fun j => snoc_at l j)] at h
   clear c1 z1 hR2
   generalize w2.setCell _ _ = w3 at hR3 ⊢
   refine wp_frame (FinRel w w1.heap.size (blk s (l ++ [128])) (byte (l ++ [128]))) ?_
   apply Exists.intro
   apply And.intro
   case left =>
    have hRd := hR3.drew
    refine wp_region_any (by kernel_rfl) ?_
    change wpAny _ _ _ _ _ _ _ (World.drew _)
    refine wpAny_ready (rs := [0,1]) (by kernel_rfl) (by simp) ?_
    refine AllReady.cons rfl (fun K hK => ?_) ?_
    · with_reducible refine step_load_arr rfl 168 (.tmp 3) rfl w.heap.size rfl .u32 8 168 s.get ?hh _ Tryz.underlying168 rfl H8 ?_
      case hh => first | exact hRd.s | exact (hRd.keep hb3.out).s
      refine hK _ _ ?_
      clear hK K
      refine wpAny_ready (rs := [1]) (by kernel_rfl) (by simp) ?_
      refine AllReady.cons rfl (fun K hK => ?_) ?_
      · with_reducible refine step_load_arr rfl 140 (.tmp 7) rfl w1.heap.size rfl .u8 64 140 (byte (l ++ [128])) hRd.r _ Tryz.underlying140 rfl HN ?_
        refine hK _ _ ?_
        clear hK K
        refine wpAny_ready (rs := [2]) (by kernel_rfl) (by simp) ?_
        refine AllReady.cons rfl (fun K hK => ?_) ?_
        · rw [if_pos (by rfl)]
          go_simp
          refine (spread_any (l ++ [128]) _).mono ?_
          rintro e w4 ⟨rfl,hb3⟩
          have hb3 := Lib.hid hb3
          refine hK _ _ ?_
          clear hK K
          refine wpAny_ready (rs := [3]) (by kernel_rfl) (by simp) ?_
          refine AllReady.cons rfl (fun K hK => ?_) ?_
          · rw [if_pos (by rfl)]
            go_simp
            refine (mix_any s (l ++ [128]) _ hs ?hh).mono ?_
            case hh => exact hg.keep (hRd.keep hb3.out).b
            rintro e w5 ⟨rfl,hb4⟩
            have hb4 := Lib.hid hb4
            refine hK _ _ ?_
            clear hK K
            refine wpAny_ready (rs := [4]) (by kernel_rfl) (by simp) ?_
            refine AllReady.cons rfl (fun K hK => ?_) ?_
            · with_reducible refine step_store_arr rfl rfl 168 (.tmp 3) (.tmp 22) rfl w.heap.size .u32 8 (blk s (l ++ [128])).get rfl rfl 168 _ ((hRd.keep hb3.out).keep hb4.out).s H8 ?_
              refine hK _ _ ?_
              clear hK K
              refine wpAny_done (by kernel_rfl) ?_ _
              exact ⟨rfl,rfl,((hRd.keep hb3.out).keep hb4.out).words _⟩
            exact AllReady.nil
          exact AllReady.nil
        exact AllReady.nil
      exact AllReady.nil
    refine AllReady.cons rfl (fun K hK => ?_) ?_
    · with_reducible refine step_load_arr rfl 140 (.tmp 7) rfl w1.heap.size rfl .u8 64 140 (byte (l ++ [128])) hRd.r _ Tryz.underlying140 rfl HN ?_
      refine hK _ _ ?_
      clear hK K
      refine wpAny_ready (rs := [0,2]) (by kernel_rfl) (by simp) ?_
      refine AllReady.cons rfl (fun K hK => ?_) ?_
      · with_reducible refine step_load_arr rfl 168 (.tmp 3) rfl w.heap.size rfl .u32 8 168 s.get ?hh _ Tryz.underlying168 rfl H8 ?_
        case hh => first | exact hRd.s | exact (hRd.keep hb3.out).s
        refine hK _ _ ?_
        clear hK K
        refine wpAny_ready (rs := [2]) (by kernel_rfl) (by simp) ?_
        refine AllReady.cons rfl (fun K hK => ?_) ?_
        · rw [if_pos (by rfl)]
          go_simp
          refine (spread_any (l ++ [128]) _).mono ?_
          rintro e w4 ⟨rfl,hb3⟩
          have hb3 := Lib.hid hb3
          refine hK _ _ ?_
          clear hK K
          refine wpAny_ready (rs := [3]) (by kernel_rfl) (by simp) ?_
          refine AllReady.cons rfl (fun K hK => ?_) ?_
          · rw [if_pos (by rfl)]
            go_simp
            refine (mix_any s (l ++ [128]) _ hs ?hh).mono ?_
            case hh => exact hg.keep (hRd.keep hb3.out).b
            rintro e w5 ⟨rfl,hb4⟩
            have hb4 := Lib.hid hb4
            refine hK _ _ ?_
            clear hK K
            refine wpAny_ready (rs := [4]) (by kernel_rfl) (by simp) ?_
            refine AllReady.cons rfl (fun K hK => ?_) ?_
            · with_reducible refine step_store_arr rfl rfl 168 (.tmp 3) (.tmp 22) rfl w.heap.size .u32 8 (blk s (l ++ [128])).get rfl rfl 168 _ ((hRd.keep hb3.out).keep hb4.out).s H8 ?_
              refine hK _ _ ?_
              clear hK K
              refine wpAny_done (by kernel_rfl) ?_ _
              exact ⟨rfl,rfl,((hRd.keep hb3.out).keep hb4.out).words _⟩
            exact AllReady.nil
          exact AllReady.nil
        exact AllReady.nil
      refine AllReady.cons rfl (fun K hK => ?_) ?_
      · rw [if_pos (by rfl)]
        go_simp
        refine (spread_any (l ++ [128]) _).mono ?_
        rintro e w4 ⟨rfl,hb3⟩
        have hb3 := Lib.hid hb3
        refine hK _ _ ?_
        clear hK K
        refine wpAny_ready (rs := [0]) (by kernel_rfl) (by simp) ?_
        refine AllReady.cons rfl (fun K hK => ?_) ?_
        · with_reducible refine step_load_arr rfl 168 (.tmp 3) rfl w.heap.size rfl .u32 8 168 s.get ?hh _ Tryz.underlying168 rfl H8 ?_
          case hh => first | exact hRd.s | exact (hRd.keep hb3.out).s
          refine hK _ _ ?_
          clear hK K
          refine wpAny_ready (rs := [3]) (by kernel_rfl) (by simp) ?_
          refine AllReady.cons rfl (fun K hK => ?_) ?_
          · rw [if_pos (by rfl)]
            go_simp
            refine (mix_any s (l ++ [128]) _ hs ?hh).mono ?_
            case hh => exact hg.keep (hRd.keep hb3.out).b
            rintro e w5 ⟨rfl,hb4⟩
            have hb4 := Lib.hid hb4
            refine hK _ _ ?_
            clear hK K
            refine wpAny_ready (rs := [4]) (by kernel_rfl) (by simp) ?_
            refine AllReady.cons rfl (fun K hK => ?_) ?_
            · with_reducible refine step_store_arr rfl rfl 168 (.tmp 3) (.tmp 22) rfl w.heap.size .u32 8 (blk s (l ++ [128])).get rfl rfl 168 _ ((hRd.keep hb3.out).keep hb4.out).s H8 ?_
              refine hK _ _ ?_
              clear hK K
              refine wpAny_done (by kernel_rfl) ?_ _
              exact ⟨rfl,rfl,((hRd.keep hb3.out).keep hb4.out).words _⟩
            exact AllReady.nil
          exact AllReady.nil
        exact AllReady.nil
      exact AllReady.nil
    exact AllReady.nil
   case right =>
    intro w4 hR4
    clear hR3
    go_wp2_with (with_reducible refine wpList_store_arr rfl 140 (.tmp 7) (.tmp 23) rfl w1.heap.size .u8 64 (fun _ => 0) rfl ?hy 140 _ hR4.r HN ?_)
    case hy => rfl
    have hRx := hR4.bytes (fun _ => 0)
    clear hR4
    generalize World.setRow _ _ _ = wx at hRx ⊢
    go_loopw [27] (fun i wr => ∃ k : Nat,k ≤ 8 ∧ i = .int .i64 k ∧ ∃ f,FinRel w w1.heap.size (blk s (l ++ [128])) f wr ∧ EndTo (fun _ => 0) all f k) (fun i _ => 8 - (intOf i).toNat)
    case atStart => exact ⟨0,by decide,rfl,_,hRx,fun j hj => by rw [if_neg (by omega)]⟩
    case round =>
     obtain ⟨k,hk,rfl,f,hF,hE⟩ := hrel
     by_cases hlt : k < 8
     · have c1 := hF.r.at_ (63 - k) (by omega)
       have z1 := hF.r.frz (63 - k)
       go_wp2_with fail
       go_roundw
       case rel => exact ⟨k + 1,by omega,by go_num,_,by rw [len_val]; exact hF.put (63 - k) _,hE.next hlt⟩
       case measure => simp [intOf]; omega
     · obtain rfl : k = 8 := by omega
       rw [show ((8 : Nat) : Int) = 8 from rfl]
       have hG : FinRel w w1.heap.size (blk s (l ++ [128])) (byte (List.replicate 56 0 ++ be8 (8 * all))) wr := ⟨hF.b,hF.g,hF.s,hF.z,hF.r.congr fun j hj => (hE.last j hj).trans (end_long all j hj)⟩
       have HFIN := Lib.hid (fin_long (s := s) (all := all) h56)
       obtain ⟨LL,hLL⟩ : ∃ LL,LL = List.replicate 56 0 ++ be8 (8 * all) := ⟨_,rfl⟩
       rw [← hLL] at hG
       have HLL := Lib.hid hLL
       clear hLL hF hE
       go_wp2_with fail
       refine wp_frame (Fin2 w (blk (blk s (l ++ [128])) LL)) ?_
       apply Exists.intro
       apply And.intro
       case left =>
        have hRd := hG.drew
        refine wp_region_any (by kernel_rfl) ?_
        change wpAny _ _ _ _ _ _ _ (World.drew _)
        refine wpAny_ready (rs := [0,1]) (by kernel_rfl) (by simp) ?_
        refine AllReady.cons rfl (fun K hK => ?_) ?_
        · with_reducible refine step_load_arr rfl 168 (.tmp 3) rfl w.heap.size rfl .u32 8 168 (W8.get (blk s (l ++ [128]))) ?hh _ Tryz.underlying168 rfl H8 ?_
          case hh => first | exact hRd.s | exact (hRd.keep hb3.out).s
          refine hK _ _ ?_
          clear hK K
          refine wpAny_ready (rs := [1]) (by kernel_rfl) (by simp) ?_
          refine AllReady.cons rfl (fun K hK => ?_) ?_
          · with_reducible refine step_load_arr rfl 140 (.tmp 7) rfl w1.heap.size rfl .u8 64 140 (byte LL) hRd.r _ Tryz.underlying140 rfl HN ?_
            refine hK _ _ ?_
            clear hK K
            refine wpAny_ready (rs := [2]) (by kernel_rfl) (by simp) ?_
            refine AllReady.cons rfl (fun K hK => ?_) ?_
            · rw [if_pos (by rfl)]
              go_simp
              refine (spread_any LL _).mono ?_
              rintro e w4 ⟨rfl,hb3⟩
              have hb3 := Lib.hid hb3
              refine hK _ _ ?_
              clear hK K
              refine wpAny_ready (rs := [3]) (by kernel_rfl) (by simp) ?_
              refine AllReady.cons rfl (fun K hK => ?_) ?_
              · rw [if_pos (by rfl)]
                go_simp
                refine (mix_any (blk s (l ++ [128])) LL _ (blk_ok _ _) ?hh).mono ?_
                case hh => exact hg.keep (hRd.keep hb3.out).b
                rintro e w5 ⟨rfl,hb4⟩
                have hb4 := Lib.hid hb4
                refine hK _ _ ?_
                clear hK K
                refine wpAny_ready (rs := [4]) (by kernel_rfl) (by simp) ?_
                refine AllReady.cons rfl (fun K hK => ?_) ?_
                · with_reducible refine step_store_arr rfl rfl 168 (.tmp 6) (.tmp 42) rfl (w.heap.size + 1) .u32 8 (blk (blk s (l ++ [128])) LL).get rfl rfl 168 _ ((hRd.keep hb3.out).keep hb4.out).z H8 ?_
                  refine hK _ _ ?_
                  clear hK K
                  refine wpAny_done (by kernel_rfl) ?_ _
                  exact ⟨rfl,rfl,below_setRow ((hRd.keep hb3.out).keep hb4.out).b (by omega) _,((hRd.keep hb3.out).keep hb4.out).z.setRow _⟩
                exact AllReady.nil
              exact AllReady.nil
            exact AllReady.nil
          exact AllReady.nil
        refine AllReady.cons rfl (fun K hK => ?_) ?_
        · with_reducible refine step_load_arr rfl 140 (.tmp 7) rfl w1.heap.size rfl .u8 64 140 (byte LL) hRd.r _ Tryz.underlying140 rfl HN ?_
          refine hK _ _ ?_
          clear hK K
          refine wpAny_ready (rs := [0,2]) (by kernel_rfl) (by simp) ?_
          refine AllReady.cons rfl (fun K hK => ?_) ?_
          · with_reducible refine step_load_arr rfl 168 (.tmp 3) rfl w.heap.size rfl .u32 8 168 (W8.get (blk s (l ++ [128]))) ?hh _ Tryz.underlying168 rfl H8 ?_
            case hh => first | exact hRd.s | exact (hRd.keep hb3.out).s
            refine hK _ _ ?_
            clear hK K
            refine wpAny_ready (rs := [2]) (by kernel_rfl) (by simp) ?_
            refine AllReady.cons rfl (fun K hK => ?_) ?_
            · rw [if_pos (by rfl)]
              go_simp
              refine (spread_any LL _).mono ?_
              rintro e w4 ⟨rfl,hb3⟩
              have hb3 := Lib.hid hb3
              refine hK _ _ ?_
              clear hK K
              refine wpAny_ready (rs := [3]) (by kernel_rfl) (by simp) ?_
              refine AllReady.cons rfl (fun K hK => ?_) ?_
              · rw [if_pos (by rfl)]
                go_simp
                refine (mix_any (blk s (l ++ [128])) LL _ (blk_ok _ _) ?hh).mono ?_
                case hh => exact hg.keep (hRd.keep hb3.out).b
                rintro e w5 ⟨rfl,hb4⟩
                have hb4 := Lib.hid hb4
                refine hK _ _ ?_
                clear hK K
                refine wpAny_ready (rs := [4]) (by kernel_rfl) (by simp) ?_
                refine AllReady.cons rfl (fun K hK => ?_) ?_
                · with_reducible refine step_store_arr rfl rfl 168 (.tmp 6) (.tmp 42) rfl (w.heap.size + 1) .u32 8 (blk (blk s (l ++ [128])) LL).get rfl rfl 168 _ ((hRd.keep hb3.out).keep hb4.out).z H8 ?_
                  refine hK _ _ ?_
                  clear hK K
                  refine wpAny_done (by kernel_rfl) ?_ _
                  exact ⟨rfl,rfl,below_setRow ((hRd.keep hb3.out).keep hb4.out).b (by omega) _,((hRd.keep hb3.out).keep hb4.out).z.setRow _⟩
                exact AllReady.nil
              exact AllReady.nil
            exact AllReady.nil
          refine AllReady.cons rfl (fun K hK => ?_) ?_
          · rw [if_pos (by rfl)]
            go_simp
            refine (spread_any LL _).mono ?_
            rintro e w4 ⟨rfl,hb3⟩
            have hb3 := Lib.hid hb3
            refine hK _ _ ?_
            clear hK K
            refine wpAny_ready (rs := [0]) (by kernel_rfl) (by simp) ?_
            refine AllReady.cons rfl (fun K hK => ?_) ?_
            · with_reducible refine step_load_arr rfl 168 (.tmp 3) rfl w.heap.size rfl .u32 8 168 (W8.get (blk s (l ++ [128]))) ?hh _ Tryz.underlying168 rfl H8 ?_
              case hh => first | exact hRd.s | exact (hRd.keep hb3.out).s
              refine hK _ _ ?_
              clear hK K
              refine wpAny_ready (rs := [3]) (by kernel_rfl) (by simp) ?_
              refine AllReady.cons rfl (fun K hK => ?_) ?_
              · rw [if_pos (by rfl)]
                go_simp
                refine (mix_any (blk s (l ++ [128])) LL _ (blk_ok _ _) ?hh).mono ?_
                case hh => exact hg.keep (hRd.keep hb3.out).b
                rintro e w5 ⟨rfl,hb4⟩
                have hb4 := Lib.hid hb4
                refine hK _ _ ?_
                clear hK K
                refine wpAny_ready (rs := [4]) (by kernel_rfl) (by simp) ?_
                refine AllReady.cons rfl (fun K hK => ?_) ?_
                · with_reducible refine step_store_arr rfl rfl 168 (.tmp 6) (.tmp 42) rfl (w.heap.size + 1) .u32 8 (blk (blk s (l ++ [128])) LL).get rfl rfl 168 _ ((hRd.keep hb3.out).keep hb4.out).z H8 ?_
                  refine hK _ _ ?_
                  clear hK K
                  refine wpAny_done (by kernel_rfl) ?_ _
                  exact ⟨rfl,rfl,below_setRow ((hRd.keep hb3.out).keep hb4.out).b (by omega) _,((hRd.keep hb3.out).keep hb4.out).z.setRow _⟩
                exact AllReady.nil
              exact AllReady.nil
            exact AllReady.nil
          exact AllReady.nil
        exact AllReady.nil
       case right =>
        rintro w6 ⟨hb6,hr6⟩
        have hb6 := Lib.hid hb6
        clear hRx hG
        go_wp2_with fail
        exact bodyPost_ret (results_arr rfl _ _ (w.heap.size + 1) 168 .u32 8 (blk (blk s (l ++ [128])) LL).get _ rfl hr6 Tryz.underlying168 rfl H8) rfl ⟨by rw [HLL.out,HFIN.out],hb6.out⟩
end Go.Proofs.YtpoinibckmbfcaaGreatDoor.ShaT
namespace Go.Proofs.YtpoinibckmbfcaaGreatDoor.ShaT
open Go.RowKit Kit ShaMath
set_option linter.unusedVariables false
set_option maxRecDepth 100000
structure SumRel (w : World) (s : W8) (wr : World) : Prop where
 b : Below w.heap.size w wr
 z : Arr wr w.heap.size .u8 32 89 (fun _ => 0)
 s : Arr wr (w.heap.size + 1) .u32 8 168 s.get
theorem SumRel.drew {w : World} {s : W8} {wr : World} (h : SumRel w s wr) : SumRel w s wr.drew := ⟨h.b.drew,h.z,h.s⟩
theorem SumRel.keep {w : World} {s : W8} {wr w' : World} (h : SumRel w s wr) (hb : Below wr.heap.size wr w') : SumRel w s w' :=
 ⟨h.b.trans (hb.mono h.b.size),h.z.keep hb h.z.lt,h.s.keep hb h.s.lt⟩
theorem SumRel.words {w : World} {s : W8} {wr : World} (h : SumRel w s wr) (s' : W8) : SumRel w s' (wr.setRow (w.heap.size + 1) (row .u32 8 s'.get)) :=
 ⟨below_setRow h.b (by omega) _,h.z.setRow_ne _ (by omega),h.s.setRow _⟩
set_option maxHeartbeats 2000000 in
theorem sum_any (p : Option Addr) (l : List UInt8) (cap : Nat) (w : World) (hb : Bs w p l) (hl : l.length ≤ 281474976710656) (hlc : l.length ≤ cap) (hc : cap ≤ 9223372036854775807) (hg : Tabs w) :
  Calls Tryz.prog 146 #[.slice p l.length cap] w fun e w' => e = .returned (.agg (row .u8 32 (sumAt l))) ∧ Below w.heap.size w w' := by
 obtain ⟨hz,hn⟩ := zero_of_info info_32
 have HN := Lib.hid hn
 clear hn
 have H8 := Lib.hid (zero_of_info info_8).2
 have HL := Lib.hid hl
 go_enter Tryz.func146,Tryz.ntmps146
 go_wp2_with (first | (with_reducible refine wpList_load_tb rfl 168 (.global 2) rfl 2 rfl .u32 8 H0.get (hg.h.al _) _ Tryz.underlying168 rfl H8 ?_) | (with_reducible refine wpList_store_arr rfl 168 (.tmp 3) (.tmp 5) rfl (w.heap.size + 1) .u32 8 H0.get rfl rfl 168 _ (zero8_1 _ _) H8 ?_))
 have hR : SumRel w H0 (((w.alloc (.cells (row .u8 32 fun _ => 0) 89)).alloc (.cells #[.int .u32 0,.int .u32 0,.int .u32 0,.int .u32 0,.int .u32 0,.int .u32 0,.int .u32 0,.int .u32 0] 168)).setRow (w.heap.size + 1) (row .u32 8 H0.get)) :=
  ⟨below_setRow (below2 _ _ _) (by omega) _,(Arr.new.al _).setRow_ne _ (by omega),(zero8_1 _ _).setRow _⟩
 generalize World.setRow _ _ _ = w1 at hR ⊢
 go_loopw [4] (fun v wr => ∃ (k : Nat) (q : Option Addr) (c : Nat),v = .slice q (l.drop (64 * k)).length c ∧ 64 * k ≤ l.length ∧ (l.drop (64 * k)).length ≤ c ∧ c ≤ 9223372036854775807 ∧ Bs w q (l.drop (64 * k)) ∧ SumRel w (after (padded l) k) wr) (fun v _ => match v with | .slice _ n _ => n | _ => 0)
 case atStart => exact ⟨0,p,cap,rfl,by omega,hlc,hc,hb,hR⟩
 case round =>
  obtain ⟨k,q,c,rfl,hk,hkc,hcm,hB,hS⟩ := hrel
  obtain ⟨r,hr⟩ : ∃ r,r = l.drop (64 * k) := ⟨_,rfl⟩
  rw [← hr] at hkc hB ⊢
  have HR := Lib.hid hr
  clear hr
  by_cases hlt : 64 ≤ r.length
  · have hd : decide (64 ≤ (r.length : Int)) = true := decide_eq_true (by omega)
    go_wp2_with fail
    refine wp_frame (SumRel w (blk (after (padded l) k) r)) ?_
    apply Exists.intro
    apply And.intro
    case left =>
     have hRd := hS.drew
     have hBd := (hB.keep hS.b).drewN
     refine wp_region_any (by kernel_rfl) ?_
     change wpAny _ _ _ _ _ _ _ (World.drew _)
     refine wpAny_ready (rs := [0,1]) (by kernel_rfl) (by simp) ?_
     refine AllReady.cons rfl (fun K hK => ?_) ?_
     · with_reducible refine step_load_arr rfl 168 (.tmp 3) rfl (w.heap.size + 1) rfl .u32 8 168 (W8.get (after (padded l) k)) ?hh _ Tryz.underlying168 rfl H8 ?_
       case hh => first | exact hRd.s | exact (hRd.keep hb2.out).s | exact ((hRd.keep hb2.out).keep hb3.out).s
       refine hK _ _ ?_
       clear hK K
       refine wpAny_ready (rs := [1]) (by kernel_rfl) (by simp) ?_
       refine AllReady.cons rfl (fun K hK => ?_) ?_
       · go_simp
         refine hK _ _ ?_
         clear hK K
         refine wpAny_ready (rs := [2]) (by kernel_rfl) (by simp) ?_
         refine AllReady.cons rfl (fun K hK => ?_) ?_
         · rw [if_pos (by rfl)]
           go_simp
           refine (block_arr q r c _ hBd (by unfold maxLen; omega)).mono ?_
           rintro e w4 ⟨rfl,hb2⟩
           have hb2 := Lib.hid hb2
           refine hK _ _ ?_
           clear hK K
           refine wpAny_ready (rs := [3]) (by kernel_rfl) (by simp) ?_
           refine AllReady.cons rfl (fun K hK => ?_) ?_
           · rw [if_pos (by rfl)]
             go_simp
             refine (spread_any r _).mono ?_
             rintro e w5 ⟨rfl,hb3⟩
             have hb3 := Lib.hid hb3
             refine hK _ _ ?_
             clear hK K
             refine wpAny_ready (rs := [4]) (by kernel_rfl) (by simp) ?_
             refine AllReady.cons rfl (fun K hK => ?_) ?_
             · rw [if_pos (by rfl)]
               go_simp
               refine (mix_any (after (padded l) k) r _ (after_ok _ _) ?hh).mono ?_
               case hh => exact hg.keep ((hRd.keep hb2.out).keep hb3.out).b
               rintro e w6 ⟨rfl,hb4⟩
               have hb4 := Lib.hid hb4
               refine hK _ _ ?_
               clear hK K
               refine wpAny_ready (rs := [5]) (by kernel_rfl) (by simp) ?_
               refine AllReady.cons rfl (fun K hK => ?_) ?_
               · with_reducible refine step_store_arr rfl rfl 168 (.tmp 3) (.tmp 14) rfl (w.heap.size + 1) .u32 8 (blk (after (padded l) k) r).get rfl rfl 168 _ (((hRd.keep hb2.out).keep hb3.out).keep hb4.out).s H8 ?_
                 refine hK _ _ ?_
                 clear hK K
                 refine wpAny_done (by kernel_rfl) ?_ _
                 exact ⟨rfl,rfl,(((hRd.keep hb2.out).keep hb3.out).keep hb4.out).words _⟩
               exact AllReady.nil
             exact AllReady.nil
           exact AllReady.nil
         exact AllReady.nil
       exact AllReady.nil
     refine AllReady.cons rfl (fun K hK => ?_) ?_
     · go_simp
       refine hK _ _ ?_
       clear hK K
       refine wpAny_ready (rs := [0,2]) (by kernel_rfl) (by simp) ?_
       refine AllReady.cons rfl (fun K hK => ?_) ?_
       · with_reducible refine step_load_arr rfl 168 (.tmp 3) rfl (w.heap.size + 1) rfl .u32 8 168 (W8.get (after (padded l) k)) ?hh _ Tryz.underlying168 rfl H8 ?_
         case hh => first | exact hRd.s | exact (hRd.keep hb2.out).s | exact ((hRd.keep hb2.out).keep hb3.out).s
         refine hK _ _ ?_
         clear hK K
         refine wpAny_ready (rs := [2]) (by kernel_rfl) (by simp) ?_
         refine AllReady.cons rfl (fun K hK => ?_) ?_
         · rw [if_pos (by rfl)]
           go_simp
           refine (block_arr q r c _ hBd (by unfold maxLen; omega)).mono ?_
           rintro e w4 ⟨rfl,hb2⟩
           have hb2 := Lib.hid hb2
           refine hK _ _ ?_
           clear hK K
           refine wpAny_ready (rs := [3]) (by kernel_rfl) (by simp) ?_
           refine AllReady.cons rfl (fun K hK => ?_) ?_
           · rw [if_pos (by rfl)]
             go_simp
             refine (spread_any r _).mono ?_
             rintro e w5 ⟨rfl,hb3⟩
             have hb3 := Lib.hid hb3
             refine hK _ _ ?_
             clear hK K
             refine wpAny_ready (rs := [4]) (by kernel_rfl) (by simp) ?_
             refine AllReady.cons rfl (fun K hK => ?_) ?_
             · rw [if_pos (by rfl)]
               go_simp
               refine (mix_any (after (padded l) k) r _ (after_ok _ _) ?hh).mono ?_
               case hh => exact hg.keep ((hRd.keep hb2.out).keep hb3.out).b
               rintro e w6 ⟨rfl,hb4⟩
               have hb4 := Lib.hid hb4
               refine hK _ _ ?_
               clear hK K
               refine wpAny_ready (rs := [5]) (by kernel_rfl) (by simp) ?_
               refine AllReady.cons rfl (fun K hK => ?_) ?_
               · with_reducible refine step_store_arr rfl rfl 168 (.tmp 3) (.tmp 14) rfl (w.heap.size + 1) .u32 8 (blk (after (padded l) k) r).get rfl rfl 168 _ (((hRd.keep hb2.out).keep hb3.out).keep hb4.out).s H8 ?_
                 refine hK _ _ ?_
                 clear hK K
                 refine wpAny_done (by kernel_rfl) ?_ _
                 exact ⟨rfl,rfl,(((hRd.keep hb2.out).keep hb3.out).keep hb4.out).words _⟩
               exact AllReady.nil
             exact AllReady.nil
           exact AllReady.nil
         exact AllReady.nil
       refine AllReady.cons rfl (fun K hK => ?_) ?_
       · rw [if_pos (by rfl)]
         go_simp
         refine (block_arr q r c _ hBd (by unfold maxLen; omega)).mono ?_
         rintro e w4 ⟨rfl,hb2⟩
         have hb2 := Lib.hid hb2
         refine hK _ _ ?_
         clear hK K
         refine wpAny_ready (rs := [0,3]) (by kernel_rfl) (by simp) ?_
         refine AllReady.cons rfl (fun K hK => ?_) ?_
         · with_reducible refine step_load_arr rfl 168 (.tmp 3) rfl (w.heap.size + 1) rfl .u32 8 168 (W8.get (after (padded l) k)) ?hh _ Tryz.underlying168 rfl H8 ?_
           case hh => first | exact hRd.s | exact (hRd.keep hb2.out).s | exact ((hRd.keep hb2.out).keep hb3.out).s
           refine hK _ _ ?_
           clear hK K
           refine wpAny_ready (rs := [3]) (by kernel_rfl) (by simp) ?_
           refine AllReady.cons rfl (fun K hK => ?_) ?_
           · rw [if_pos (by rfl)]
             go_simp
             refine (spread_any r _).mono ?_
             rintro e w5 ⟨rfl,hb3⟩
             have hb3 := Lib.hid hb3
             refine hK _ _ ?_
             clear hK K
             refine wpAny_ready (rs := [4]) (by kernel_rfl) (by simp) ?_
             refine AllReady.cons rfl (fun K hK => ?_) ?_
             · rw [if_pos (by rfl)]
               go_simp
               refine (mix_any (after (padded l) k) r _ (after_ok _ _) ?hh).mono ?_
               case hh => exact hg.keep ((hRd.keep hb2.out).keep hb3.out).b
               rintro e w6 ⟨rfl,hb4⟩
               have hb4 := Lib.hid hb4
               refine hK _ _ ?_
               clear hK K
               refine wpAny_ready (rs := [5]) (by kernel_rfl) (by simp) ?_
               refine AllReady.cons rfl (fun K hK => ?_) ?_
               · with_reducible refine step_store_arr rfl rfl 168 (.tmp 3) (.tmp 14) rfl (w.heap.size + 1) .u32 8 (blk (after (padded l) k) r).get rfl rfl 168 _ (((hRd.keep hb2.out).keep hb3.out).keep hb4.out).s H8 ?_
                 refine hK _ _ ?_
                 clear hK K
                 refine wpAny_done (by kernel_rfl) ?_ _
                 exact ⟨rfl,rfl,(((hRd.keep hb2.out).keep hb3.out).keep hb4.out).words _⟩
               exact AllReady.nil
             exact AllReady.nil
           exact AllReady.nil
         refine AllReady.cons rfl (fun K hK => ?_) ?_
         · rw [if_pos (by rfl)]
           go_simp
           refine (spread_any r _).mono ?_
           rintro e w5 ⟨rfl,hb3⟩
           have hb3 := Lib.hid hb3
           refine hK _ _ ?_
           clear hK K
           refine wpAny_ready (rs := [0]) (by kernel_rfl) (by simp) ?_
           refine AllReady.cons rfl (fun K hK => ?_) ?_
           · with_reducible refine step_load_arr rfl 168 (.tmp 3) rfl (w.heap.size + 1) rfl .u32 8 168 (W8.get (after (padded l) k)) ?hh _ Tryz.underlying168 rfl H8 ?_
             case hh => first | exact hRd.s | exact (hRd.keep hb2.out).s | exact ((hRd.keep hb2.out).keep hb3.out).s
             refine hK _ _ ?_
             clear hK K
             refine wpAny_ready (rs := [4]) (by kernel_rfl) (by simp) ?_
             refine AllReady.cons rfl (fun K hK => ?_) ?_
             · rw [if_pos (by rfl)]
               go_simp
               refine (mix_any (after (padded l) k) r _ (after_ok _ _) ?hh).mono ?_
               case hh => exact hg.keep ((hRd.keep hb2.out).keep hb3.out).b
               rintro e w6 ⟨rfl,hb4⟩
               have hb4 := Lib.hid hb4
               refine hK _ _ ?_
               clear hK K
               refine wpAny_ready (rs := [5]) (by kernel_rfl) (by simp) ?_
               refine AllReady.cons rfl (fun K hK => ?_) ?_
               · with_reducible refine step_store_arr rfl rfl 168 (.tmp 3) (.tmp 14) rfl (w.heap.size + 1) .u32 8 (blk (after (padded l) k) r).get rfl rfl 168 _ (((hRd.keep hb2.out).keep hb3.out).keep hb4.out).s H8 ?_
                 refine hK _ _ ?_
                 clear hK K
                 refine wpAny_done (by kernel_rfl) ?_ _
                 exact ⟨rfl,rfl,(((hRd.keep hb2.out).keep hb3.out).keep hb4.out).words _⟩
               exact AllReady.nil
             exact AllReady.nil
           exact AllReady.nil
         exact AllReady.nil
       exact AllReady.nil
     exact AllReady.nil
    case right =>
     intro w7 hR7
     obtain ⟨b,off,rfl,hbl,hcell⟩ := hB (by omega)
     have HC := Lib.hid hcell
     clear hcell
     have hdr := Lib.hid (show l.drop (64 * (k + 1)) = r.drop 64 by rw [HR.out,List.drop_drop]; congr 1)
     have hrl : r.length = l.length - 64 * k := by rw [HR.out,List.length_drop]
     have haf := Lib.hid (show after (padded l) (k + 1) = blk (after (padded l) k) r by rw [HR.out]; exact (after_whole l k (by omega)).symm)
     have HRL := Lib.hid hrl
     clear hrl hB hS
     go_wp2_with fail
     go_roundw
     case rel => exact ⟨k + 1,_,c - 64,by rw [hdr.out,List.length_drop],by have := HRL.out; omega,by rw [hdr.out,List.length_drop]; omega,by omega,by rw [hdr.out]; exact Bs.next hkc hbl HC.out,by rw [haf.out]; exact hR7⟩
     case measure => show r.length - 64 < r.length; omega
  · have hd : decide (64 ≤ (r.length : Int)) = false := decide_eq_false (by omega)
    have hrl : r.length = l.length - 64 * k := by rw [HR.out,List.length_drop]
    have HF := Lib.hid (show fin (after (padded l) k) r l.length = sumW l by rw [HR.out]; exact sum_fin l k hk (by omega))
    clear hrl
    go_wp2_with (with_reducible refine wpList_load_arr rfl 168 (.tmp 3) rfl (w.heap.size + 1) rfl .u32 8 168 (W8.get (after (padded l) k)) hS.s _ Tryz.underlying168 rfl H8 ?_)
    refine (finish_any (after (padded l) k) q r c l.length _ (after_ok _ _) (hB.keep hS.b) (by omega) hl (hg.keep hS.b)).mono ?_
    rw [HF.out]
    rintro e w2 ⟨rfl,hb2⟩
    have hS2 := hS.keep hb2
    clear hb2 hS hB
    go_wp2_with fail
    refine (told_any (sumW l) _ (after_ok _ _)).mono ?_
    rintro e w3 ⟨rfl,hb3⟩
    have hS3 := hS2.keep hb3
    clear hb3 hS2
    go_wp2_with (with_reducible refine wpList_store_arr rfl 89 (.tmp 2) (.tmp 22) rfl w.heap.size .u8 32 (tb (sumW l)) rfl rfl 89 _ hS3.z HN ?_)
    exact bodyPost_ret (results_arr rfl _ _ w.heap.size 89 .u8 32 (tb (sumW l)) _ rfl (hS3.z.setRow _) Tryz.underlying89 rfl HN) rfl ⟨rfl,below_setRow hS3.b (Nat.le_refl _) _⟩
end Go.Proofs.YtpoinibckmbfcaaGreatDoor.ShaT
namespace Go.Proofs.YtpoinibckmbfcaaGreatDoor.MacT
open Go.RowKit Kit ShaMath ShaT MacM
set_option linter.unusedVariables false
set_option maxRecDepth 100000
set_option maxHeartbeats 2000000 in
theorem mblock_short (p : Option Addr) (l : List UInt8) (n cap : Nat) (w : World) (hn : l.length = n) (hb : Bs w p l) (hl : l.length ≤ 64) :
  Calls Tryz.prog 126 #[.slice p n cap] w fun e w' => e = .returned (.agg (row .u8 64 (keyAt l))) ∧ Below w.heap.size w w' := by
 obtain ⟨hz,hn2⟩ := zero_of_info info_b64'
 have HN := Lib.hid hn2
 clear hn2
 have HU := Lib.hid info_u8
 have HK := Lib.hid (show keyAt l = byte l by unfold keyAt; rw [shortKey_short (by omega)])
 obtain ⟨Z,hZ⟩ : ∃ Z,Z = bytesOf 64 (byte l) := ⟨_,rfl⟩
 have HZ := Lib.hid hZ
 have HF := Lib.hid (filled_eq hl)
 clear hZ
 subst hn
 have hd : decide (64 < (l.length : Int)) = false := decide_eq_false (by omega)
 go_enter Tryz.func126,Tryz.ntmps126
 go_wp2_with (with_reducible refine wpList_copy_bytes rfl (.tmp 11) (.tmp 12) 30 rfl 5 Tryz.underlying30 HU.out (w.heap.size + 1) 0 64 64 p cap (zeros 64) l 140 rfl rfl (byt_zero Arr.new1) hl ?c1 ?c2 (w.heap.size + 1) _ (Below.refl _ _) (Nat.le_refl _) Z (HZ.out.trans HF.out) ?_)
 case c1 => exact hb.keep (below2 _ _ _)
 case c2 => rw [zeros_length]; omega
 intro w1 hB hb1
 rw [HZ.out] at hB
 have hA := byt_arr hB (byte_lt l)
 have hbw := (below2 w (.cells (row .u8 64 fun _ => 0) 140) (.cells (row .u8 64 fun _ => 0) 140)).trans (hb1.mono (by omega))
 have hr : Arr w1 w.heap.size .u8 64 140 fun _ => 0 := ((Arr.new (w := w)).al (.cells (row .u8 64 fun _ => 0) 140)).keep hb1 (by omega)
 clear hB hb1
 go_wp2_with (first | (with_reducible refine wpList_load_arr rfl 140 (.tmp 3) rfl (w.heap.size + 1) rfl .u8 64 140 (byte l) hA _ Tryz.underlying140 rfl HN ?_) | (with_reducible refine wpList_store_arr rfl 140 (.tmp 2) (.tmp 14) rfl w.heap.size .u8 64 (byte l) rfl rfl 140 _ hr HN ?_))
 rw [HK.out]
 exact bodyPost_ret (results_arr rfl _ _ w.heap.size 140 .u8 64 (byte l) _ rfl (hr.setRow _) Tryz.underlying140 rfl HN) rfl ⟨rfl,below_setRow hbw (Nat.le_refl _) _⟩
set_option maxHeartbeats 2000000 in
theorem mblock_long (p : Option Addr) (l : List UInt8) (n cap : Nat) (w : World) (hn : l.length = n) (hb : Bs w p l) (hl : 64 < l.length) (hm : l.length ≤ 281474976710656) (hlc : l.length ≤ cap) (hc : cap ≤ 9223372036854775807) (hg : Tabs w) :
  Calls Tryz.prog 126 #[.slice p n cap] w fun e w' => e = .returned (.agg (row .u8 64 (keyAt l))) ∧ Below w.heap.size w w' := by
 obtain ⟨hz,hn2⟩ := zero_of_info info_b64'
 obtain ⟨hz3,hn3⟩ := zero_of_info info_32
 have HN := Lib.hid hn2
 have H32 := Lib.hid hn3
 clear hn2 hn3
 have HU := Lib.hid info_u8
 obtain ⟨L,hL⟩ : ∃ L,L = sumList l := ⟨_,rfl⟩
 have HK := Lib.hid (show keyAt l = byte L by unfold keyAt; rw [shortKey_long hl,hL])
 have HS := Lib.hid (show L.length = 32 by rw [hL]; exact sumList_length l)
 have HL := Lib.hid hL
 obtain ⟨Z,hZ⟩ : ∃ Z,Z = bytesOf 64 (byte L) := ⟨_,rfl⟩
 have HZ := Lib.hid hZ
 have HF := Lib.hid (filled_eq (show L.length ≤ 64 by rw [HS.out]; decide))
 clear hL hZ
 subst hn
 have hd : decide (64 < (l.length : Int)) = true := decide_eq_true (by omega)
 go_enter Tryz.func126,Tryz.ntmps126
 go_wp2_with fail
 refine (sum_any p l cap _ ?hb hm hlc hc ?hg).mono ?_
 case hb => exact hb.keep (below2 _ _ _)
 case hg => exact hg.keep (below2 _ _ _)
 rintro e w1 ⟨rfl,hb1⟩
 have hz0 : w.heap.size + 1 + 1 ≤ w1.heap.size := by have := hb1.size; simp at this; omega
 have H2 := Lib.hid (((Arr.new (w := w) (k := .u8) (n := 64) (t := 140) (f := fun _ => 0)).al (.cells (row .u8 64 fun _ => 0) 140)).keep hb1 (by simp; omega))
 have H3 := Lib.hid ((Arr.new1 (w := w) (o := .cells (row .u8 64 fun _ => 0) 140) (k := .u8) (n := 64) (t := 140) (f := fun _ => 0)).keep hb1 (by simp))
 have HB1 := Lib.hid ((below2 w (.cells (row .u8 64 fun _ => 0) 140) (.cells (row .u8 64 fun _ => 0) 140)).trans (hb1.mono (by simp; omega)))
 clear hb1
 go_wp2_with (first | (with_reducible refine wpList_store_arr rfl 89 (.tmp 4) (.tmp 9) rfl w1.heap.size .u8 32 (sumAt l) rfl rfl 89 _ Arr.new H32 ?_) | (with_reducible refine wpList_copy_bytes rfl (.tmp 11) (.tmp 12) 30 rfl 5 Tryz.underlying30 HU.out (w.heap.size + 1) 0 64 64 (some ⟨w1.heap.size,0,none⟩) 32 (zeros 64) L 140 rfl ?c0 ?c4 ?c5 ?c1 ?c2 (w.heap.size + 1) _ (Below.refl _ _) (Nat.le_refl _) Z (HZ.out.trans HF.out) ?_))
 case c0 => rw [HS.out]; rfl
 case c4 => exact byt_zero ((H3.out.al _).setRow_ne _ (by have := H3.out.lt; omega))
 case c5 => rw [HS.out]; omega
 case c1 => rw [HL.out]; exact arr_bs (Arr.new.setRow _) (sumAt_lt l)
 case c2 => rw [zeros_length,HS.out]; omega
 intro w2 hB hb2
 rw [HZ.out] at hB
 have hA := byt_arr hB (byte_lt L)
 have hr0 : Arr ((w1.alloc (.cells (row .u8 32 fun _ => 0) 89)).setRow w1.heap.size (row .u8 32 (sumAt l))) w.heap.size .u8 64 140 fun _ => 0 := (H2.out.al _).setRow_ne _ (by omega)
 have hr := hr0.keep hb2 (by omega)
 have hbw := (below_setRow (HB1.out.alloc (by omega) (.cells (row .u8 32 fun _ => 0) 89)) (show w.heap.size ≤ w1.heap.size by omega) (row .u8 32 (sumAt l))).trans (hb2.mono (by omega))
 clear hB hb2 hr0
 go_wp2_with (first | (with_reducible refine wpList_load_arr rfl 140 (.tmp 3) rfl (w.heap.size + 1) rfl .u8 64 140 (byte L) hA _ Tryz.underlying140 rfl HN ?_) | (with_reducible refine wpList_store_arr rfl 140 (.tmp 2) (.tmp 14) rfl w.heap.size .u8 64 (byte L) rfl rfl 140 _ hr HN ?_))
 rw [HK.out]
 exact bodyPost_ret (results_arr rfl _ _ w.heap.size 140 .u8 64 (byte L) _ rfl (hr.setRow _) Tryz.underlying140 rfl HN) rfl ⟨rfl,below_setRow hbw (Nat.le_refl _) _⟩
theorem mblock_any (p : Option Addr) (l : List UInt8) (n cap : Nat) (w : World) (hn : l.length = n) (hb : Bs w p l) (hm : l.length ≤ 281474976710656) (hlc : l.length ≤ cap) (hc : cap ≤ 9223372036854775807) (hg : Tabs w) :
  Calls Tryz.prog 126 #[.slice p n cap] w fun e w' => e = .returned (.agg (row .u8 64 (keyAt l))) ∧ Below w.heap.size w w' := by
 by_cases h : 64 < l.length
 · exact mblock_long p l n cap w hn hb h hm hlc hc hg
 · exact mblock_short p l n cap w hn hb (by omega)
set_option maxHeartbeats 2000000 in
theorem turned_any (K : Nat → Nat) (v : Nat) (w : World) (hK : ∀ j,K j < 256) (hv : v < 256) :
  Calls Tryz.prog 148 #[.agg (row .u8 64 K),.int .u8 (v : Int)] w fun e w' => e = .returned (.agg (row .u8 64 (padAt K v))) ∧ Below w.heap.size w w' := by
 obtain ⟨hz,hn2⟩ := zero_of_info info_b64'
 have HN := Lib.hid hn2
 clear hn2
 have HK := Lib.hid hK
 clear hK
 go_enter Tryz.func148,Tryz.ntmps148
 go_wp2_with fail
 go_loopw [6] (fun i wr => ∃ k : Nat,k ≤ 64 ∧ i = .int .i64 k ∧ TurnRel w K v k wr) (fun i _ => 64 - (intOf i).toNat)
 case atStart => exact ⟨0,by decide,rfl,below2 _ _ _,(Arr.new.al _).congr (fun j _ => by simp),Arr.new1⟩
 case round =>
  obtain ⟨k,hk,rfl,hR⟩ := hrel
  by_cases hlt : k < 64
  · have c0 := hR.a.at_ k hlt
    rw [if_neg (Nat.lt_irrefl k)] at c0
    have z0 := hR.a.frz k
    have hkk := HK.out k
    have hx := u8_xor_nat (K k) v hkk hv
    have HX := Lib.hid hR
    clear hR
    go_wp2
    go_roundw
    case rel => exact ⟨k + 1,by omega,by go_num,HX.out.next⟩
    case measure => simp [intOf]; omega
  · have hA : Arr wr w.heap.size .u8 64 140 (padAt K v) := hR.a.congr fun j hj => by show (if j < k then padAt K v j else K j) = _; rw [if_pos (by omega)]
    have hZ := hR.z
    have hb := hR.b
    clear hR
    go_wp2_with (first | (with_reducible refine wpList_load_arr rfl 140 (.tmp 2) rfl w.heap.size rfl .u8 64 140 (padAt K v) hA _ Tryz.underlying140 rfl HN ?_) | (with_reducible refine wpList_store_arr rfl 140 (.tmp 4) (.tmp 16) rfl (w.heap.size + 1) .u8 64 (padAt K v) rfl rfl 140 _ hZ HN ?_))
    exact bodyPost_ret (results_arr rfl _ _ (w.heap.size + 1) 140 .u8 64 (padAt K v) _ rfl (hZ.setRow _) Tryz.underlying140 rfl HN) rfl ⟨rfl,below_setRow hb (by omega) _⟩
end Go.Proofs.YtpoinibckmbfcaaGreatDoor.MacT
namespace Go.Proofs.YtpoinibckmbfcaaGreatDoor.MacT
open Go.RowKit Kit ShaMath ShaT MacM
set_option linter.unusedVariables false
set_option maxRecDepth 100000
set_option maxHeartbeats 2000000 in
theorem behind_nil (K : Nat → Nat) (hK : ∀ j,K j < 256) (p : Option Addr) (cap : Nat) (w : World) :
  Calls Tryz.prog 147 #[.agg (row .u8 64 K),.slice p 0 cap] w (Made (bytesOf 64 K) w) := by
 obtain ⟨i0,hi0,hz0,hz1,hzb⟩ := info_parts u8_parts
 have hmk := run_make (P := Tryz.prog) (w.alloc (.cells (row .u8 64 K) 140)) 30 5 i0 (.int .u8 0) Tryz.underlying30 hi0 hz0 .i64 .i64 64 64 (by omega) (by omega) (by rw [hzb]; omega) (by omega)
 rw [hz1,show (64 : Int).toNat * 1 = 64 by omega,show (64 : Int).toNat = 64 by omega] at hmk
 have HU := Lib.hid info_u8
 obtain ⟨KL,hKL⟩ : ∃ KL,KL = bytesOf 64 K := ⟨_,rfl⟩
 have HKL := Lib.hid hKL
 have HKN := Lib.hid (show KL.length = 64 by rw [hKL]; exact bytesOf_length _ _)
 rw [← hKL]
 clear hKL
 have HZ := Lib.hid (show KL = (zeros 64).take 0 ++ KL ++ (zeros 64).drop (0 + KL.length) by
  rw [List.take_zero,List.nil_append,Nat.zero_add,HKN.out,List.drop_of_length_le (by rw [zeros_length]; omega),List.append_nil])
 have HZ2 := Lib.hid (show KL = KL.take 0 ++ [] ++ KL.drop (0 + ([] : List UInt8).length) by simp)
 go_enter Tryz.func147,Tryz.ntmps147
 go_wp2_with (with_reducible refine wpList_copy_bytes rfl (.tmp 10) (.tmp 11) 30 rfl 5 Tryz.underlying30 HU.out (w.heap.size + 1) 0 64 64 (some ⟨w.heap.size,0,none⟩) 64 (zeros 64) KL 5 rfl ?c0 ?c1 ?c2 ?c3 ?c4 (w.heap.size + 1) _ (Below.refl _ _) (Nat.le_refl _) KL HZ.out ?_)
 case c0 => rw [HKN.out]; rfl
 case c1 => exact made_byt1 _ _ _
 case c2 => rw [HKN.out]; omega
 case c3 => rw [HKL.out]; exact arr_bs (Arr.new.al _) hK
 case c4 => rw [zeros_length,HKN.out]; omega
 intro w1 hB1 hb1
 have hb1' := (below2 w (.cells (row .u8 64 K) 140) (.cells (madeCells #[.int .u8 0] 64) 5)).trans (hb1.mono (by omega))
 clear hb1
 go_wp2_with (with_reducible refine wpList_copy_bytes rfl (.tmp 14) (.tmp 15) 30 rfl 5 Tryz.underlying30 HU.out (w.heap.size + 1) 0 _ _ p cap KL [] 5 rfl ?d1 hB1 ?d2 ?d3 ?d4 w.heap.size w hb1' (by omega) KL HZ2.out ?_)
 case d1 => rfl
 case d2 => simp
 case d3 => exact fun h => absurd h (by simp)
 case d4 => simp
 intro w2 hB2 hb2
 clear hB1 hb1'
 go_wp2_with fail
 go_ret
 exact ⟨w.heap.size + 1,by rw [HKN.out]; rfl,hB2,hb2⟩
set_option maxHeartbeats 2000000 in
theorem behind_any (K : Nat → Nat) (hK : ∀ j,K j < 256) (p : Option Addr) (l : List UInt8) (n cap : Nat) (w : World) (hn : l.length = n) (hb : Bs w p l) (hl : l.length ≤ 70368744176640) :
  Calls Tryz.prog 147 #[.agg (row .u8 64 K),.slice p n cap] w (Made (bytesOf 64 K ++ l) w) := by
 obtain ⟨i0,hi0,hz0,hz1,hzb⟩ := info_parts u8_parts
 have hmk := run_make (P := Tryz.prog) (w.alloc (.cells (row .u8 64 K) 140)) 30 5 i0 (.int .u8 0) Tryz.underlying30 hi0 hz0 .i64 .i64 (64 + (l.length : Int)) (64 + (l.length : Int)) (by omega) (by omega) (by rw [hzb]; omega) (by omega)
 rw [hz1,show (64 + (l.length : Int)).toNat * 1 = 64 + l.length by omega,show (64 + (l.length : Int)).toNat = 64 + l.length by omega] at hmk
 have HU := Lib.hid info_u8
 subst hn
 obtain ⟨KL,hKL⟩ : ∃ KL,KL = bytesOf 64 K := ⟨_,rfl⟩
 have HKL := Lib.hid hKL
 have HKN := Lib.hid (show KL.length = 64 by rw [hKL]; exact bytesOf_length _ _)
 rw [← hKL]
 clear hKL
 obtain ⟨Z,hZ⟩ : ∃ Z,Z = (zeros (64 + l.length)).take 0 ++ KL ++ (zeros (64 + l.length)).drop (0 + KL.length) := ⟨_,rfl⟩
 have HZ := Lib.hid hZ
 have HZE := Lib.hid (show Z = KL ++ zeros l.length by
  rw [hZ,List.take_zero,List.nil_append,Nat.zero_add,HKN.out]
  congr 1
  unfold zeros
  rw [List.drop_replicate]
  congr 1
  omega)
 clear hZ
 obtain ⟨R,hR⟩ : ∃ R,R = KL ++ l := ⟨_,rfl⟩
 rw [← hR]
 have HR := Lib.hid hR
 have HRL := Lib.hid (show R.length = 64 + l.length by rw [hR,List.length_append,HKN.out])
 clear hR
 by_cases h0 : l.length = 0
 · obtain rfl : l = [] := List.eq_nil_of_length_eq_zero h0
   rw [HR.out,HKL.out,List.append_nil]
   exact behind_nil K hK p cap w
 · have h1 : ¬ 64 + l.length = 64 := by omega
   go_enter Tryz.func147,Tryz.ntmps147
   go_wp2_with (with_reducible refine wpList_copy_bytes rfl (.tmp 10) (.tmp 11) 30 rfl 5 Tryz.underlying30 HU.out (w.heap.size + 1) 0 (64 + l.length) (64 + l.length) (some ⟨w.heap.size,0,none⟩) 64 (zeros (64 + l.length)) KL 5 rfl ?c0 ?c1 ?c2 ?c3 ?c4 (w.heap.size + 1) _ (Below.refl _ _) (Nat.le_refl _) Z HZ.out ?_)
   case c0 => rw [HKN.out]; rfl
   case c1 => exact made_byt1 _ _ _
   case c2 => rw [HKN.out]; omega
   case c3 => rw [HKL.out]; exact arr_bs (Arr.new.al _) hK
   case c4 => rw [zeros_length,HKN.out]; omega
   intro w1 hB1 hb1
   have hb1' := (below2 w (.cells (row .u8 64 K) 140) (.cells (madeCells #[.int .u8 0] (64 + l.length)) 5)).trans (hb1.mono (by omega))
   have hbs := hb.keep hb1'
   clear hb1
   go_wp2_with (with_reducible refine wpList_copy_bytes rfl (.tmp 14) (.tmp 15) 30 rfl 5 Tryz.underlying30 HU.out (w.heap.size + 1) 64 _ _ p cap Z l 5 rfl rfl hB1 ?d2 hbs ?d4 w.heap.size w hb1' (by omega) R ?d5 ?_)
   case d2 => omega
   case d4 => rw [HZE.out,List.length_append,HKN.out,zeros_length]; omega
   case d5 => rw [HR.out,HZE.out,List.take_append_of_le_length (by rw [HKN.out]; omega),List.take_of_length_le (by rw [HKN.out]; omega),List.drop_of_length_le (by rw [List.length_append,HKN.out,zeros_length]; omega),List.append_nil]
   intro w2 hB2 hb2
   clear hB1 hb1' hbs
   go_wp2_with fail
   go_ret
   exact ⟨w.heap.size + 1,by rw [HRL.out]; rfl,hB2,hb2⟩
set_option maxHeartbeats 2000000 in
theorem numbered_any (p : Option Addr) (l : List UInt8) (n cap : Nat) (w : World) (hn : l.length = n) (hb : Bs w p l) (hl : l.length ≤ 70368744176640) :
  Calls Tryz.prog 128 #[.slice p n cap] w (Made (firstMsg l) w) := by
 obtain ⟨i0,hi0,hz0,hz1,hzb⟩ := info_parts u8_parts
 have hmk := run_make (P := Tryz.prog) w 30 5 i0 (.int .u8 0) Tryz.underlying30 hi0 hz0 .i64 .i64 ((l.length : Int) + 4) ((l.length : Int) + 4) (by omega) (by omega) (by rw [hzb]; omega) (by omega)
 rw [hz1,show ((l.length : Int) + 4).toNat * 1 = l.length + 4 by omega,show ((l.length : Int) + 4).toNat = l.length + 4 by omega] at hmk
 have HU := Lib.hid info_u8
 subst hn
 obtain ⟨R,hR⟩ : ∃ R,R = firstMsg l := ⟨_,rfl⟩
 rw [← hR]
 have HRL := Lib.hid (show R.length = l.length + 4 by rw [hR]; simp [firstMsg])
 obtain ⟨Z,hZ⟩ : ∃ Z,Z = (zeros (l.length + 4)).take 0 ++ l ++ (zeros (l.length + 4)).drop (0 + l.length) := ⟨_,rfl⟩
 have HZ := Lib.hid hZ
 have hZE : Z = l ++ zeros 4 := by
  rw [hZ,List.take_zero,List.nil_append,Nat.zero_add]
  congr 1
  unfold zeros
  rw [List.drop_replicate]
  congr 1
  omega
 have HZL := Lib.hid (show Z.length = l.length + 4 by rw [hZE]; simp [zeros])
 have HZR := Lib.hid (show Z.set (l.length + 3) 1 = R by
  rw [hZE,hR]
  unfold firstMsg
  rw [List.set_append_right _ _ (by omega),show l.length + 3 - l.length = 3 by omega]
  rfl)
 have HZ3 := Lib.hid (show ∀ h : l.length + 3 < Z.length,Z[l.length + 3] = 0 by
  subst hZE
  intro h
  rw [List.getElem_append_right (by omega)]
  simp [zeros])
 clear hZ hR hZE
 go_enter Tryz.func128,Tryz.ntmps128
 go_wp2_with (with_reducible refine wpList_copy_bytes rfl (.tmp 8) (.tmp 9) 30 rfl 5 Tryz.underlying30 HU.out w.heap.size 0 (l.length + 4) (l.length + 4) p cap (zeros (l.length + 4)) l 5 rfl rfl ?c1 ?c2 ?c3 ?c4 w.heap.size _ (Below.refl _ _) (Nat.le_refl _) Z HZ.out ?_)
 case c1 => exact made_byt0 _ _
 case c2 => omega
 case c3 => exact hb.keep (below1 _ _)
 case c4 => rw [zeros_length]; omega
 intro w1 hB1 hb1
 have hb1' := (below1 w (.cells (madeCells #[.int .u8 0] (l.length + 4)) 5)).trans hb1
 have c0 := hB1.at_ (l.length + 3) (by rw [HZL.out]; omega)
 rw [HZ3.out (by rw [HZL.out]; omega)] at c0
 have z0 := hB1.frz (l.length + 3)
 have HB1 := Lib.hid hB1
 clear hb1 hB1
 go_wp2_with fail
 go_ret
 refine ⟨w.heap.size,by rw [HRL.out]; rfl,?_,hb1'.setCell (by simp) _⟩
 have := HB1.out.set (l.length + 3) 1
 rwa [HZR.out] at this
end Go.Proofs.YtpoinibckmbfcaaGreatDoor.MacT
namespace Go.Proofs.YtpoinibckmbfcaaGreatDoor.MacT
open Go.RowKit Kit ShaMath ShaT MacM
set_option linter.unusedVariables false
set_option maxRecDepth 100000
theorem sum_n (p : Option Addr) (l : List UInt8) (n cap : Nat) (w : World) (hn : l.length = n) (hb : Bs w p l) (hl : l.length ≤ 281474976710656) (hlc : l.length ≤ cap) (hc : cap ≤ 9223372036854775807) (hg : Tabs w) :
  Calls Tryz.prog 146 #[.slice p n cap] w fun e w' => e = .returned (.agg (row .u8 32 (sumAt l))) ∧ Below w.heap.size w w' := by
 subst hn
 exact sum_any p l cap w hb hl hlc hc hg
theorem turned_54 (K : Nat → Nat) (w : World) (hK : ∀ j,K j < 256) :
  Calls Tryz.prog 148 #[.agg (row .u8 64 K),.int .u8 54] w fun e w' => e = .returned (.agg (row .u8 64 (padAt K 54))) ∧ Below w.heap.size w w' := turned_any K 54 w hK (by decide)
theorem turned_92 (K : Nat → Nat) (w : World) (hK : ∀ j,K j < 256) :
  Calls Tryz.prog 148 #[.agg (row .u8 64 K),.int .u8 92] w fun e w' => e = .returned (.agg (row .u8 64 (padAt K 92))) ∧ Below w.heap.size w w' := turned_any K 92 w hK (by decide)
set_option maxHeartbeats 1000000 in
theorem keyed_any (Ky : Nat → Nat) (hK : ∀ j,Ky j < 256) (p : Option Addr) (l : List UInt8) (n cap : Nat) (w : World) (hn : l.length = n) (hb : Bs w p l) (hl : l.length ≤ 70368744170000) (hg : Tabs w) :
  Calls Tryz.prog 127 #[.agg (row .u8 64 Ky),.slice p n cap] w fun e w' => e = .returned (.agg (row .u8 32 (keyedAt Ky l))) ∧ Below w.heap.size w w' := by
 obtain ⟨hz,hn2⟩ := zero_of_info info_b64'
 obtain ⟨hz3,hn3⟩ := zero_of_info info_32
 have H64 := Lib.hid hn2
 have HN := Lib.hid hn3
 clear hn2 hn3
 have HK := Lib.hid hK
 have HG := Lib.hid hg
 have HB := Lib.hid hb
 obtain ⟨M,hM⟩ : ∃ M,M = padL Ky 54 ++ l := ⟨_,rfl⟩
 have HML := Lib.hid (show M.length = 64 + l.length by rw [hM,List.length_append,padL_length])
 have HM := Lib.hid hM
 obtain ⟨M2,hM2⟩ : ∃ M2,M2 = padL Ky 92 ++ sumList M := ⟨_,rfl⟩
 have HM2L := Lib.hid (show M2.length = 96 by rw [hM2,List.length_append,padL_length,sumList_length])
 have HM2 := Lib.hid hM2
 have HR := Lib.hid (show keyedAt Ky l = sumAt M2 by rw [hM2,hM]; rfl)
 rw [HR.out]
 have HS := Lib.hid (sumList_length M)
 have B1 := Lib.hid (show ∀ W,Bs W p l → Calls Tryz.prog 147 #[.agg (row .u8 64 (padAt Ky 54)),.slice p n cap] W (Made M W) from fun W h => by rw [hM]; exact behind_any (padAt Ky 54) (padAt_lt Ky hK 54 (by decide)) p l n cap W hn h (by omega))
 have B2 := Lib.hid (show ∀ W q,Bs W q (sumList M) → Calls Tryz.prog 147 #[.agg (row .u8 64 (padAt Ky 92)),.slice q 32 32] W (Made M2 W) from fun W q h => by rw [hM2]; exact behind_any (padAt Ky 92) (padAt_lt Ky hK 92 (by decide)) q (sumList M) 32 32 W (sumList_length M) h (by rw [sumList_length]; decide))
 clear hM hM2 hK hg hb hn
 go_enter Tryz.func127,Tryz.ntmps127
 go_wp2_with (with_reducible refine wpList_load_arr rfl 140 (.tmp 2) rfl w.heap.size rfl .u8 64 140 Ky (Arr.new.al _) _ Tryz.underlying140 rfl H64 ?_)
 refine (turned_54 Ky _ HK.out).mono ?_
 rintro e w1 ⟨rfl,hb1⟩
 have hk0 : Key0 w Ky ((w.alloc (.cells (row .u8 64 Ky) 140)).alloc (.cells (row .u8 32 fun _ => 0) 89)) := ⟨below2 _ _ _,Arr.new.al _,Arr.new1⟩
 have HK1 := Lib.hid (hk0.keep hb1)
 clear hb1 hk0
 go_wp2_with fail
 refine (B1.out _ (HB.out.keep HK1.out.b)).mono ?_
 rintro e w2 ⟨g2,rfl,hB2,hb2⟩
 have HK2 := Lib.hid (HK1.out.keep hb2)
 have hbs2 := Lib.hid hB2.bs
 clear hb2 hB2
 go_wp2_with fail
 refine (sum_n _ M _ _ _ rfl hbs2.out (by rw [HML.out]; omega) (Nat.le_refl _) (by rw [HML.out]; omega) (HG.out.keep HK2.out.b)).mono ?_
 rintro e w3 ⟨rfl,hb3⟩
 have HK3 := Lib.hid (HK2.out.keep hb3)
 clear hb3
 go_wp2_with (with_reducible refine wpList_store_arr rfl 89 (.tmp 5) (.tmp 10) rfl w3.heap.size .u8 32 (sumAt M) rfl rfl 89 _ Arr.new HN ?_)
 have hR0 : KeyRel w Ky (sumAt M) w3.heap.size ((w3.alloc (.cells (row .u8 32 fun _ => 0) 89)).setRow w3.heap.size (row .u8 32 (sumAt M))) :=
  ⟨⟨below_setRow (HK3.out.b.alloc HK3.out.b.size _) HK3.out.b.size _,(HK3.out.k.al _).setRow_ne _ (by have := HK3.out.k.lt; omega),(HK3.out.z.al _).setRow_ne _ (by have := HK3.out.z.lt; omega)⟩,Arr.new.setRow _⟩
 have hgz : w.heap.size + 1 < w3.heap.size := HK3.out.z.lt
 generalize World.setRow _ _ _ = w4 at hR0 ⊢
 generalize w3.heap.size = g at hR0 hgz ⊢
 have HR4 := Lib.hid hR0.drew
 clear hR0
 refine wp_region_any (by kernel_rfl) ?_
 change wpAny _ _ _ _ _ _ _ (World.drew _)
 refine wpAny_ready (rs := [0,2]) (by kernel_rfl) (by simp) ?_
 refine AllReady.cons rfl (fun K hK => ?_) ?_
 · with_reducible refine step_load_arr rfl 140 (.tmp 2) rfl w.heap.size rfl .u8 64 140 Ky HR4.out.o.k _ Tryz.underlying140 rfl H64 ?_
   refine hK _ _ ?_
   clear hK K
   refine wpAny_ready (rs := [1,2]) (by kernel_rfl) (by simp) ?_
   refine AllReady.cons rfl (fun K hK => ?_) ?_
   · rw [if_pos (by rfl)]
     go_simp
     refine (turned_92 Ky _ HK.out).mono ?_
     rintro e w5 ⟨rfl,hb5⟩
     have HR5 := Lib.hid (HR4.out.keep hb5)
     refine hK _ _ ?_
     clear hK K
     refine wpAny_ready (rs := [2]) (by kernel_rfl) (by simp) ?_
     refine AllReady.cons rfl (fun K hK => ?_) ?_
     · go_simp
       refine hK _ _ ?_
       clear hK K
       refine wpAny_ready (rs := [3]) (by kernel_rfl) (by simp) ?_
       refine AllReady.cons rfl (fun K hK => ?_) ?_
       · rw [if_pos (by rfl)]
         go_simp
         refine (B2.out _ _ ?hh).mono ?_
         case hh => exact arr_bs HR5.out.s (sumAt_lt M)
         rintro e w6 ⟨g6,rfl,hB6,hb6⟩
         have HR6 := Lib.hid (HR5.out.keep hb6)
         refine hK _ _ ?_
         clear hK K
         refine wpAny_ready (rs := [4]) (by kernel_rfl) (by simp) ?_
         refine AllReady.cons rfl (fun K hK => ?_) ?_
         · rw [if_pos (by rfl)]
           go_simp
           refine (sum_n _ M2 _ _ _ rfl hB6.bs (by rw [HM2L.out]; decide) (Nat.le_refl _) (by rw [HM2L.out]; decide) (HG.out.keep HR6.out.o.b)).mono ?_
           rintro e w7 ⟨rfl,hb7⟩
           have HR7 := Lib.hid (HR6.out.keep hb7)
           refine hK _ _ ?_
           clear hK K
           refine wpAny_ready (rs := [5]) (by kernel_rfl) (by simp) ?_
           refine AllReady.cons rfl (fun K hK => ?_) ?_
           · with_reducible refine step_store_arr rfl rfl 89 (.tmp 4) (.tmp 15) rfl (w.heap.size + 1) .u8 32 (sumAt M2) rfl rfl 89 _ HR7.out.o.z HN ?_
             refine hK _ _ ?_
             clear hK K
             refine wpAny_done (by kernel_rfl) ?_ _
             (go_wp2_with fail; exact bodyPost_ret (results_arr rfl _ _ (w.heap.size + 1) 89 .u8 32 (sumAt M2) _ rfl (HR7.out.o.z.setRow _) Tryz.underlying89 rfl HN) rfl ⟨rfl,below_setRow HR7.out.o.b (by omega) _⟩)
           exact AllReady.nil
         exact AllReady.nil
       exact AllReady.nil
     exact AllReady.nil
   refine AllReady.cons rfl (fun K hK => ?_) ?_
   · go_simp
     refine hK _ _ ?_
     clear hK K
     refine wpAny_ready (rs := [1]) (by kernel_rfl) (by simp) ?_
     refine AllReady.cons rfl (fun K hK => ?_) ?_
     · rw [if_pos (by rfl)]
       go_simp
       refine (turned_92 Ky _ HK.out).mono ?_
       rintro e w5 ⟨rfl,hb5⟩
       have HR5 := Lib.hid (HR4.out.keep hb5)
       refine hK _ _ ?_
       clear hK K
       refine wpAny_ready (rs := [3]) (by kernel_rfl) (by simp) ?_
       refine AllReady.cons rfl (fun K hK => ?_) ?_
       · rw [if_pos (by rfl)]
         go_simp
         refine (B2.out _ _ ?hh).mono ?_
         case hh => exact arr_bs HR5.out.s (sumAt_lt M)
         rintro e w6 ⟨g6,rfl,hB6,hb6⟩
         have HR6 := Lib.hid (HR5.out.keep hb6)
         refine hK _ _ ?_
         clear hK K
         refine wpAny_ready (rs := [4]) (by kernel_rfl) (by simp) ?_
         refine AllReady.cons rfl (fun K hK => ?_) ?_
         · rw [if_pos (by rfl)]
           go_simp
           refine (sum_n _ M2 _ _ _ rfl hB6.bs (by rw [HM2L.out]; decide) (Nat.le_refl _) (by rw [HM2L.out]; decide) (HG.out.keep HR6.out.o.b)).mono ?_
           rintro e w7 ⟨rfl,hb7⟩
           have HR7 := Lib.hid (HR6.out.keep hb7)
           refine hK _ _ ?_
           clear hK K
           refine wpAny_ready (rs := [5]) (by kernel_rfl) (by simp) ?_
           refine AllReady.cons rfl (fun K hK => ?_) ?_
           · with_reducible refine step_store_arr rfl rfl 89 (.tmp 4) (.tmp 15) rfl (w.heap.size + 1) .u8 32 (sumAt M2) rfl rfl 89 _ HR7.out.o.z HN ?_
             refine hK _ _ ?_
             clear hK K
             refine wpAny_done (by kernel_rfl) ?_ _
             (go_wp2_with fail; exact bodyPost_ret (results_arr rfl _ _ (w.heap.size + 1) 89 .u8 32 (sumAt M2) _ rfl (HR7.out.o.z.setRow _) Tryz.underlying89 rfl HN) rfl ⟨rfl,below_setRow HR7.out.o.b (by omega) _⟩)
           exact AllReady.nil
         exact AllReady.nil
       exact AllReady.nil
     exact AllReady.nil
   exact AllReady.nil
 refine AllReady.cons rfl (fun K hK => ?_) ?_
 · go_simp
   refine hK _ _ ?_
   clear hK K
   refine wpAny_ready (rs := [0]) (by kernel_rfl) (by simp) ?_
   refine AllReady.cons rfl (fun K hK => ?_) ?_
   · with_reducible refine step_load_arr rfl 140 (.tmp 2) rfl w.heap.size rfl .u8 64 140 Ky HR4.out.o.k _ Tryz.underlying140 rfl H64 ?_
     refine hK _ _ ?_
     clear hK K
     refine wpAny_ready (rs := [1]) (by kernel_rfl) (by simp) ?_
     refine AllReady.cons rfl (fun K hK => ?_) ?_
     · rw [if_pos (by rfl)]
       go_simp
       refine (turned_92 Ky _ HK.out).mono ?_
       rintro e w5 ⟨rfl,hb5⟩
       have HR5 := Lib.hid (HR4.out.keep hb5)
       refine hK _ _ ?_
       clear hK K
       refine wpAny_ready (rs := [3]) (by kernel_rfl) (by simp) ?_
       refine AllReady.cons rfl (fun K hK => ?_) ?_
       · rw [if_pos (by rfl)]
         go_simp
         refine (B2.out _ _ ?hh).mono ?_
         case hh => exact arr_bs HR5.out.s (sumAt_lt M)
         rintro e w6 ⟨g6,rfl,hB6,hb6⟩
         have HR6 := Lib.hid (HR5.out.keep hb6)
         refine hK _ _ ?_
         clear hK K
         refine wpAny_ready (rs := [4]) (by kernel_rfl) (by simp) ?_
         refine AllReady.cons rfl (fun K hK => ?_) ?_
         · rw [if_pos (by rfl)]
           go_simp
           refine (sum_n _ M2 _ _ _ rfl hB6.bs (by rw [HM2L.out]; decide) (Nat.le_refl _) (by rw [HM2L.out]; decide) (HG.out.keep HR6.out.o.b)).mono ?_
           rintro e w7 ⟨rfl,hb7⟩
           have HR7 := Lib.hid (HR6.out.keep hb7)
           refine hK _ _ ?_
           clear hK K
           refine wpAny_ready (rs := [5]) (by kernel_rfl) (by simp) ?_
           refine AllReady.cons rfl (fun K hK => ?_) ?_
           · with_reducible refine step_store_arr rfl rfl 89 (.tmp 4) (.tmp 15) rfl (w.heap.size + 1) .u8 32 (sumAt M2) rfl rfl 89 _ HR7.out.o.z HN ?_
             refine hK _ _ ?_
             clear hK K
             refine wpAny_done (by kernel_rfl) ?_ _
             (go_wp2_with fail; exact bodyPost_ret (results_arr rfl _ _ (w.heap.size + 1) 89 .u8 32 (sumAt M2) _ rfl (HR7.out.o.z.setRow _) Tryz.underlying89 rfl HN) rfl ⟨rfl,below_setRow HR7.out.o.b (by omega) _⟩)
           exact AllReady.nil
         exact AllReady.nil
       exact AllReady.nil
     exact AllReady.nil
   exact AllReady.nil
 exact AllReady.nil
end Go.Proofs.YtpoinibckmbfcaaGreatDoor.MacT
namespace Go.Proofs.YtpoinibckmbfcaaGreatDoor.MacT
open Go.RowKit Kit ShaMath ShaT MacM
set_option linter.unusedVariables false
set_option maxRecDepth 100000
set_option maxHeartbeats 1000000 in
theorem same_any (p : Option Addr) (a : List UInt8) (n cap : Nat) (q : Option Addr) (b : List UInt8) (m cap2 : Nat) (w : World) (hn : a.length = n) (ha : Bs w p a) (hm : b.length = m) (hb : Bs w q b) (hl : n ≤ 281474976710656) (hl2 : m ≤ 281474976710656) :
  Calls Tryz.prog 96 #[.slice p n cap,.slice q m cap2] w fun e w' => e = .returned (.bool (decide (a = b))) ∧ Below w.heap.size w w' := by
 by_cases hnm : n = m
 · have hd : ((n : Int) != (m : Int)) = false := by simp [hnm]
   have HE := Lib.hid (unl_eq (show a.length = b.length by omega))
   rw [← HE.out,hn]
   have HA := Lib.hid ha
   have HB := Lib.hid hb
   have HN := Lib.hid hn
   have HM := Lib.hid hm
   have HNM := Lib.hid hnm
   clear HE ha hb hn hm hnm
   go_enter Tryz.func96,Tryz.ntmps96
   go_wp2_with fail
   go_loopw [5,14] (fun u i wr => ∃ k : Nat,k ≤ n ∧ i = .int .i64 k ∧ u = .int .u8 (unl a b k : Int) ∧ Below w.heap.size w wr) (fun _ i _ => n - (intOf i).toNat)
   case atStart => exact ⟨0,Nat.zero_le _,rfl,rfl,Below.refl _ _⟩
   case round =>
    obtain ⟨k,hk,rfl,rfl,hR⟩ := hrel
    by_cases hlt : k < n
    · obtain ⟨b1,o1,rfl,-,hc1⟩ := (HA.out.keep hR) (by rw [HN.out]; omega)
      obtain ⟨b2,o2,rfl,-,hc2⟩ := (HB.out.keep hR) (by rw [HM.out]; have := HNM.out; omega)
      have c1 := hc1 k (by rw [HN.out]; omega)
      have c2 := hc2 k (by rw [HM.out]; have := HNM.out; omega)
      rw [← byte_at a k] at c1
      rw [← byte_at b k] at c2
      clear hc1 hc2
      have hx1 := byte_lt a k
      have hx2 := byte_lt b k
      have e1 := u8_xor_nat (byte a k) (byte b k) hx1 hx2
      have e2 := u8_or_nat (unl a b k) (byte a k ^^^ byte b k) (unl_lt a b k) (Nat.xor_lt_two_pow (n := 8) hx1 hx2)
      have HS := Lib.hid (unl_succ a b k)
      have hkm : k < m := by have := HNM.out; omega
      go_wp2_with fail
      go_quiet (fail)
      go_wp2_with fail
      go_roundw
      case rel => exact ⟨k + 1,by omega,by go_num,by rw [HS.out],hR.trans ⟨rfl,rfl,rfl,Nat.le_refl _,fun _ _ => rfl⟩⟩
      case measure => simp [intOf]; omega
    · have hk2 : k = n := by omega
      have HK := Lib.hid (show unl a b n = unl a b k by rw [hk2])
      have hv : ((unl a b k : Int) == 0) = (unl a b n == 0) := by rw [HK.out,Bool.eq_iff_iff]; simp
      clear hk2
      go_wp2_with fail
      go_ret
      exact ⟨rfl,hR⟩
 · have hd : ((n : Int) != (m : Int)) = true := by simp; omega
   have HE := Lib.hid (show decide (a = b) = false from decide_eq_false (fun e => hnm (by rw [← hn,← hm,e])))
   rw [HE.out]
   clear hnm hn hm ha hb HE
   go_enter Tryz.func96,Tryz.ntmps96
   go_wp2_with fail
   go_ret
   exact ⟨rfl,Below.refl _ _⟩
end Go.Proofs.YtpoinibckmbfcaaGreatDoor.MacT
namespace Go.Proofs.YtpoinibckmbfcaaGreatDoor.MacT
open Go.RowKit Kit ShaMath ShaT MacM
set_option linter.unusedVariables false
set_option maxRecDepth 100000
set_option maxHeartbeats 4000000 in
theorem derive_in (p : Option Addr) (l : List UInt8) (n cap : Nat) (q : Option Addr) (s : List UInt8) (m cap2 : Nat) (r : Nat) (w : World) (h0 : 1 ≤ r) (h1 : r ≤ 64) (hn : l.length = n) (hb : Bs w p l) (hmx : l.length ≤ 281474976710656) (hlc : l.length ≤ cap) (hc : cap ≤ 9223372036854775807)
    (hm : s.length = m) (hbs : Bs w q s) (hl : s.length ≤ 70368744160000) (hg : Tabs w) :
    Calls Tryz.prog 95 #[.slice p n cap,.slice q m cap2,.int .i64 (r : Int)] w fun e w' => e = .returned (.agg (row .u8 32 (derAt l s r))) ∧ Below w.heap.size w w' := by
  obtain ⟨hz,hn2⟩ := zero_of_info info_b64'
  obtain ⟨hz3,hn3⟩ := zero_of_info info_32
  have H64 := Lib.hid hn2
  have HN := Lib.hid hn3
  clear hn2 hn3
  obtain ⟨Ky,hKy⟩ : ∃ Ky,Ky = keyAt l := ⟨_,rfl⟩
  have HKL := Lib.hid (show ∀ j,Ky j < 256 by rw [hKy]; exact keyAt_lt l)
  have HD := Lib.hid (show derAt l s r = mixAt Ky s r by rw [derAt_in (by omega),hKy]; rfl)
  have C1 := Lib.hid (show ∀ W,Bs W p l → Tabs W → Calls Tryz.prog 126 #[.slice p n cap] W (fun e w' => e = .returned (.agg (row .u8 64 Ky)) ∧ Below W.heap.size W w') from fun W h g => by rw [hKy]; exact mblock_any p l n cap W hn h hmx hlc hc g)
  have C2 := Lib.hid (fun W (h : Bs W q s) => numbered_any q s m cap2 W hm h (by omega))
  have HB := Lib.hid hb
  have HM := Lib.hid hbs
  have HG := Lib.hid hg
  have HF := Lib.hid (show (firstMsg s).length ≤ 70368744170000 by simp [firstMsg]; omega)
  rw [HD.out]
  obtain ⟨F,hF⟩ : ∃ F,F = firstMsg s := ⟨_,rfl⟩
  have HU0 := Lib.hid (show keyedAt Ky F = uAt Ky s 0 by rw [hF]; rfl)
  rw [← hF] at C2 HF
  clear hn hm hb hbs hg hKy hF
  go_enter Tryz.func95,Tryz.ntmps95
  go_wp2_with ((go_at_call 103; with_reducible refine (fit_yes r _ (by omega) (by omega)).mono ?_; rintro e w' ⟨rfl,rfl⟩))
  have hb0 := below1 w (.cells (row .u8 32 fun _ => 0) 89)
  refine (C1.out _ (HB.out.keep hb0) (HG.out.keep hb0)).mono ?_
  rintro e w1 ⟨rfl,hb1⟩
  have hz1 : w.heap.size < w1.heap.size := by have := hb1.size; simp at this; omega
  have HB1 := Lib.hid (hb0.trans (hb1.mono hb0.size))
  have HA1 := Lib.hid ((Arr.new (w := w) (k := .u8) (n := 32) (t := 89) (f := fun _ => 0)).keep hb1 (by simp))
  clear hb0 hb1
  go_upto_region 4 with (with_reducible refine wpList_store_arr rfl 140 (.tmp 7) (.tmp 17) rfl w1.heap.size .u8 64 Ky rfl rfl 140 _ Arr.new H64 ?_)
  have hR0 : Der0 w Ky w1.heap.size ((w1.alloc (.cells (row .u8 64 fun _ => 0) 140)).setRow w1.heap.size (row .u8 64 Ky)) :=
   ⟨below_setRow (HB1.out.alloc HB1.out.size _) HB1.out.size _,(HA1.out.al _).setRow_ne _ (by omega),Arr.new.setRow _,hz1⟩
  generalize World.setRow _ _ _ = w2 at hR0 ⊢
  generalize w1.heap.size = g7 at hR0 hz1 ⊢
  have HR2 := Lib.hid hR0
  clear hR0 HA1 HB1
  go_simp
  go_cut [8] (fun s8 wx => ∃ g8,s8 = .pointer (some ⟨g8,0,none⟩) ∧ Der1 w Ky g7 g8 (keyedAt Ky F) wx)
  case first =>
   have HC := Lib.hid HR2.out.drew
   have CK := Lib.hid (fun W g (h : Byt W g 5 F) (hT : Tabs W) => keyed_any Ky HKL.out (some ⟨g,0,none⟩) F F.length F.length W rfl h.bs HF.out hT)
   refine wp_region_any (by kernel_rfl) ?_
   change wpAny _ _ _ _ _ _ _ (World.drew _)
   refine wpAny_ready (rs := [0,1,4]) (by kernel_rfl) (by simp) ?_
   refine AllReady.cons rfl (fun K hK => ?_) ?_
   · with_reducible refine step_load_arr rfl 140 (.tmp 7) rfl g7 rfl .u8 64 140 Ky ?hh _ Tryz.underlying140 rfl H64 ?_
     case hh => exact HC.out.k
     refine hK _ _ ?_
     clear hK K
     refine wpAny_ready (rs := [1,4]) (by kernel_rfl) (by simp) ?_
     refine AllReady.cons rfl (fun K hK => ?_) ?_
     · go_simp
       refine hK _ _ ?_
       clear hK K
       refine wpAny_ready (rs := [2,4]) (by kernel_rfl) (by simp) ?_
       refine AllReady.cons rfl (fun K hK => ?_) ?_
       · rw [if_pos (by rfl)]
         go_simp
         refine (C2.out _ (HM.out.keep HC.out.b)).mono ?_
         rintro e w5 ⟨g5,rfl,hB5,hb5⟩
         replace HC := Lib.hid (HC.out.keep hb5)
         have HS5 := Lib.hid hB5
         clear hB5
         try (replace HA8 := Lib.hid (HA8.out.keep hb5 HA8.out.lt))
         clear hb5
         refine hK _ _ ?_
         clear hK K
         refine wpAny_ready (rs := [3,4]) (by kernel_rfl) (by simp) ?_
         refine AllReady.cons rfl (fun K hK => ?_) ?_
         · rw [if_pos (by rfl)]
           go_simp
           refine (CK.out _ _ HS5.out (HG.out.keep HC.out.b)).mono ?_
           rintro e w6 ⟨rfl,hb6⟩
           replace HC := Lib.hid (HC.out.keep hb6)
           try (replace HA8 := Lib.hid (HA8.out.keep hb6 HA8.out.lt))
           clear hb6
           refine hK _ _ ?_
           clear hK K
           refine wpAny_ready (rs := [4]) (by kernel_rfl) (by simp) ?_
           refine AllReady.cons rfl (fun K hK => ?_) ?_
           · go_simp
             have HA8 := Lib.hid (der_new HC.out)
             have H78 := Lib.hid HC.out.k.lt
             replace HC := Lib.hid (HC.out.al (.cells (row .u8 32 fun _ => 0) 89))
             try (replace HS5 := Lib.hid (HS5.out.al (.cells (row .u8 32 fun _ => 0) 89)))
             refine hK _ _ ?_
             clear hK K
             refine wpAny_ready (rs := [5]) (by kernel_rfl) (by simp) ?_
             refine AllReady.cons rfl (fun K hK => ?_) ?_
             · with_reducible refine step_store_arr rfl rfl 89 (.tmp 8) (.tmp 21) rfl _ .u8 32 (keyedAt Ky F) rfl rfl 89 _ HA8.out HN ?_
               refine hK _ _ ?_
               clear hK K
               refine wpAny_done (by kernel_rfl) ?_ _
               (go_wp2_with fail; go_meet; exact ⟨_,rfl,der1_mk HC.out HA8.out H78.out⟩)
             exact AllReady.nil
           exact AllReady.nil
         refine AllReady.cons rfl (fun K hK => ?_) ?_
         · go_simp
           have HA8 := Lib.hid (der_new HC.out)
           have H78 := Lib.hid HC.out.k.lt
           replace HC := Lib.hid (HC.out.al (.cells (row .u8 32 fun _ => 0) 89))
           try (replace HS5 := Lib.hid (HS5.out.al (.cells (row .u8 32 fun _ => 0) 89)))
           refine hK _ _ ?_
           clear hK K
           refine wpAny_ready (rs := [3]) (by kernel_rfl) (by simp) ?_
           refine AllReady.cons rfl (fun K hK => ?_) ?_
           · rw [if_pos (by rfl)]
             go_simp
             refine (CK.out _ _ HS5.out (HG.out.keep HC.out.b)).mono ?_
             rintro e w6 ⟨rfl,hb6⟩
             replace HC := Lib.hid (HC.out.keep hb6)
             try (replace HA8 := Lib.hid (HA8.out.keep hb6 HA8.out.lt))
             clear hb6
             refine hK _ _ ?_
             clear hK K
             refine wpAny_ready (rs := [5]) (by kernel_rfl) (by simp) ?_
             refine AllReady.cons rfl (fun K hK => ?_) ?_
             · with_reducible refine step_store_arr rfl rfl 89 (.tmp 8) (.tmp 21) rfl _ .u8 32 (keyedAt Ky F) rfl rfl 89 _ HA8.out HN ?_
               refine hK _ _ ?_
               clear hK K
               refine wpAny_done (by kernel_rfl) ?_ _
               (go_wp2_with fail; go_meet; exact ⟨_,rfl,der1_mk HC.out HA8.out H78.out⟩)
             exact AllReady.nil
           exact AllReady.nil
         exact AllReady.nil
       refine AllReady.cons rfl (fun K hK => ?_) ?_
       · go_simp
         have HA8 := Lib.hid (der_new HC.out)
         have H78 := Lib.hid HC.out.k.lt
         replace HC := Lib.hid (HC.out.al (.cells (row .u8 32 fun _ => 0) 89))
         try (replace HS5 := Lib.hid (HS5.out.al (.cells (row .u8 32 fun _ => 0) 89)))
         refine hK _ _ ?_
         clear hK K
         refine wpAny_ready (rs := [2]) (by kernel_rfl) (by simp) ?_
         refine AllReady.cons rfl (fun K hK => ?_) ?_
         · rw [if_pos (by rfl)]
           go_simp
           refine (C2.out _ (HM.out.keep HC.out.b)).mono ?_
           rintro e w5 ⟨g5,rfl,hB5,hb5⟩
           replace HC := Lib.hid (HC.out.keep hb5)
           have HS5 := Lib.hid hB5
           clear hB5
           try (replace HA8 := Lib.hid (HA8.out.keep hb5 HA8.out.lt))
           clear hb5
           refine hK _ _ ?_
           clear hK K
           refine wpAny_ready (rs := [3]) (by kernel_rfl) (by simp) ?_
           refine AllReady.cons rfl (fun K hK => ?_) ?_
           · rw [if_pos (by rfl)]
             go_simp
             refine (CK.out _ _ HS5.out (HG.out.keep HC.out.b)).mono ?_
             rintro e w6 ⟨rfl,hb6⟩
             replace HC := Lib.hid (HC.out.keep hb6)
             try (replace HA8 := Lib.hid (HA8.out.keep hb6 HA8.out.lt))
             clear hb6
             refine hK _ _ ?_
             clear hK K
             refine wpAny_ready (rs := [5]) (by kernel_rfl) (by simp) ?_
             refine AllReady.cons rfl (fun K hK => ?_) ?_
             · with_reducible refine step_store_arr rfl rfl 89 (.tmp 8) (.tmp 21) rfl _ .u8 32 (keyedAt Ky F) rfl rfl 89 _ HA8.out HN ?_
               refine hK _ _ ?_
               clear hK K
               refine wpAny_done (by kernel_rfl) ?_ _
               (go_wp2_with fail; go_meet; exact ⟨_,rfl,der1_mk HC.out HA8.out H78.out⟩)
             exact AllReady.nil
           exact AllReady.nil
         exact AllReady.nil
       exact AllReady.nil
     refine AllReady.cons rfl (fun K hK => ?_) ?_
     · go_simp
       have HA8 := Lib.hid (der_new HC.out)
       have H78 := Lib.hid HC.out.k.lt
       replace HC := Lib.hid (HC.out.al (.cells (row .u8 32 fun _ => 0) 89))
       try (replace HS5 := Lib.hid (HS5.out.al (.cells (row .u8 32 fun _ => 0) 89)))
       refine hK _ _ ?_
       clear hK K
       refine wpAny_ready (rs := [1]) (by kernel_rfl) (by simp) ?_
       refine AllReady.cons rfl (fun K hK => ?_) ?_
       · go_simp
         refine hK _ _ ?_
         clear hK K
         refine wpAny_ready (rs := [2]) (by kernel_rfl) (by simp) ?_
         refine AllReady.cons rfl (fun K hK => ?_) ?_
         · rw [if_pos (by rfl)]
           go_simp
           refine (C2.out _ (HM.out.keep HC.out.b)).mono ?_
           rintro e w5 ⟨g5,rfl,hB5,hb5⟩
           replace HC := Lib.hid (HC.out.keep hb5)
           have HS5 := Lib.hid hB5
           clear hB5
           try (replace HA8 := Lib.hid (HA8.out.keep hb5 HA8.out.lt))
           clear hb5
           refine hK _ _ ?_
           clear hK K
           refine wpAny_ready (rs := [3]) (by kernel_rfl) (by simp) ?_
           refine AllReady.cons rfl (fun K hK => ?_) ?_
           · rw [if_pos (by rfl)]
             go_simp
             refine (CK.out _ _ HS5.out (HG.out.keep HC.out.b)).mono ?_
             rintro e w6 ⟨rfl,hb6⟩
             replace HC := Lib.hid (HC.out.keep hb6)
             try (replace HA8 := Lib.hid (HA8.out.keep hb6 HA8.out.lt))
             clear hb6
             refine hK _ _ ?_
             clear hK K
             refine wpAny_ready (rs := [5]) (by kernel_rfl) (by simp) ?_
             refine AllReady.cons rfl (fun K hK => ?_) ?_
             · with_reducible refine step_store_arr rfl rfl 89 (.tmp 8) (.tmp 21) rfl _ .u8 32 (keyedAt Ky F) rfl rfl 89 _ HA8.out HN ?_
               refine hK _ _ ?_
               clear hK K
               refine wpAny_done (by kernel_rfl) ?_ _
               (go_wp2_with fail; go_meet; exact ⟨_,rfl,der1_mk HC.out HA8.out H78.out⟩)
             exact AllReady.nil
           exact AllReady.nil
         exact AllReady.nil
       exact AllReady.nil
     exact AllReady.nil
   refine AllReady.cons rfl (fun K hK => ?_) ?_
   · go_simp
     refine hK _ _ ?_
     clear hK K
     refine wpAny_ready (rs := [0,2,4]) (by kernel_rfl) (by simp) ?_
     refine AllReady.cons rfl (fun K hK => ?_) ?_
     · with_reducible refine step_load_arr rfl 140 (.tmp 7) rfl g7 rfl .u8 64 140 Ky ?hh _ Tryz.underlying140 rfl H64 ?_
       case hh => exact HC.out.k
       refine hK _ _ ?_
       clear hK K
       refine wpAny_ready (rs := [2,4]) (by kernel_rfl) (by simp) ?_
       refine AllReady.cons rfl (fun K hK => ?_) ?_
       · rw [if_pos (by rfl)]
         go_simp
         refine (C2.out _ (HM.out.keep HC.out.b)).mono ?_
         rintro e w5 ⟨g5,rfl,hB5,hb5⟩
         replace HC := Lib.hid (HC.out.keep hb5)
         have HS5 := Lib.hid hB5
         clear hB5
         try (replace HA8 := Lib.hid (HA8.out.keep hb5 HA8.out.lt))
         clear hb5
         refine hK _ _ ?_
         clear hK K
         refine wpAny_ready (rs := [3,4]) (by kernel_rfl) (by simp) ?_
         refine AllReady.cons rfl (fun K hK => ?_) ?_
         · rw [if_pos (by rfl)]
           go_simp
           refine (CK.out _ _ HS5.out (HG.out.keep HC.out.b)).mono ?_
           rintro e w6 ⟨rfl,hb6⟩
           replace HC := Lib.hid (HC.out.keep hb6)
           try (replace HA8 := Lib.hid (HA8.out.keep hb6 HA8.out.lt))
           clear hb6
           refine hK _ _ ?_
           clear hK K
           refine wpAny_ready (rs := [4]) (by kernel_rfl) (by simp) ?_
           refine AllReady.cons rfl (fun K hK => ?_) ?_
           · go_simp
             have HA8 := Lib.hid (der_new HC.out)
             have H78 := Lib.hid HC.out.k.lt
             replace HC := Lib.hid (HC.out.al (.cells (row .u8 32 fun _ => 0) 89))
             try (replace HS5 := Lib.hid (HS5.out.al (.cells (row .u8 32 fun _ => 0) 89)))
             refine hK _ _ ?_
             clear hK K
             refine wpAny_ready (rs := [5]) (by kernel_rfl) (by simp) ?_
             refine AllReady.cons rfl (fun K hK => ?_) ?_
             · with_reducible refine step_store_arr rfl rfl 89 (.tmp 8) (.tmp 21) rfl _ .u8 32 (keyedAt Ky F) rfl rfl 89 _ HA8.out HN ?_
               refine hK _ _ ?_
               clear hK K
               refine wpAny_done (by kernel_rfl) ?_ _
               (go_wp2_with fail; go_meet; exact ⟨_,rfl,der1_mk HC.out HA8.out H78.out⟩)
             exact AllReady.nil
           exact AllReady.nil
         refine AllReady.cons rfl (fun K hK => ?_) ?_
         · go_simp
           have HA8 := Lib.hid (der_new HC.out)
           have H78 := Lib.hid HC.out.k.lt
           replace HC := Lib.hid (HC.out.al (.cells (row .u8 32 fun _ => 0) 89))
           try (replace HS5 := Lib.hid (HS5.out.al (.cells (row .u8 32 fun _ => 0) 89)))
           refine hK _ _ ?_
           clear hK K
           refine wpAny_ready (rs := [3]) (by kernel_rfl) (by simp) ?_
           refine AllReady.cons rfl (fun K hK => ?_) ?_
           · rw [if_pos (by rfl)]
             go_simp
             refine (CK.out _ _ HS5.out (HG.out.keep HC.out.b)).mono ?_
             rintro e w6 ⟨rfl,hb6⟩
             replace HC := Lib.hid (HC.out.keep hb6)
             try (replace HA8 := Lib.hid (HA8.out.keep hb6 HA8.out.lt))
             clear hb6
             refine hK _ _ ?_
             clear hK K
             refine wpAny_ready (rs := [5]) (by kernel_rfl) (by simp) ?_
             refine AllReady.cons rfl (fun K hK => ?_) ?_
             · with_reducible refine step_store_arr rfl rfl 89 (.tmp 8) (.tmp 21) rfl _ .u8 32 (keyedAt Ky F) rfl rfl 89 _ HA8.out HN ?_
               refine hK _ _ ?_
               clear hK K
               refine wpAny_done (by kernel_rfl) ?_ _
               (go_wp2_with fail; go_meet; exact ⟨_,rfl,der1_mk HC.out HA8.out H78.out⟩)
             exact AllReady.nil
           exact AllReady.nil
         exact AllReady.nil
       refine AllReady.cons rfl (fun K hK => ?_) ?_
       · go_simp
         have HA8 := Lib.hid (der_new HC.out)
         have H78 := Lib.hid HC.out.k.lt
         replace HC := Lib.hid (HC.out.al (.cells (row .u8 32 fun _ => 0) 89))
         try (replace HS5 := Lib.hid (HS5.out.al (.cells (row .u8 32 fun _ => 0) 89)))
         refine hK _ _ ?_
         clear hK K
         refine wpAny_ready (rs := [2]) (by kernel_rfl) (by simp) ?_
         refine AllReady.cons rfl (fun K hK => ?_) ?_
         · rw [if_pos (by rfl)]
           go_simp
           refine (C2.out _ (HM.out.keep HC.out.b)).mono ?_
           rintro e w5 ⟨g5,rfl,hB5,hb5⟩
           replace HC := Lib.hid (HC.out.keep hb5)
           have HS5 := Lib.hid hB5
           clear hB5
           try (replace HA8 := Lib.hid (HA8.out.keep hb5 HA8.out.lt))
           clear hb5
           refine hK _ _ ?_
           clear hK K
           refine wpAny_ready (rs := [3]) (by kernel_rfl) (by simp) ?_
           refine AllReady.cons rfl (fun K hK => ?_) ?_
           · rw [if_pos (by rfl)]
             go_simp
             refine (CK.out _ _ HS5.out (HG.out.keep HC.out.b)).mono ?_
             rintro e w6 ⟨rfl,hb6⟩
             replace HC := Lib.hid (HC.out.keep hb6)
             try (replace HA8 := Lib.hid (HA8.out.keep hb6 HA8.out.lt))
             clear hb6
             refine hK _ _ ?_
             clear hK K
             refine wpAny_ready (rs := [5]) (by kernel_rfl) (by simp) ?_
             refine AllReady.cons rfl (fun K hK => ?_) ?_
             · with_reducible refine step_store_arr rfl rfl 89 (.tmp 8) (.tmp 21) rfl _ .u8 32 (keyedAt Ky F) rfl rfl 89 _ HA8.out HN ?_
               refine hK _ _ ?_
               clear hK K
               refine wpAny_done (by kernel_rfl) ?_ _
               (go_wp2_with fail; go_meet; exact ⟨_,rfl,der1_mk HC.out HA8.out H78.out⟩)
             exact AllReady.nil
           exact AllReady.nil
         exact AllReady.nil
       exact AllReady.nil
     refine AllReady.cons rfl (fun K hK => ?_) ?_
     · rw [if_pos (by rfl)]
       go_simp
       refine (C2.out _ (HM.out.keep HC.out.b)).mono ?_
       rintro e w5 ⟨g5,rfl,hB5,hb5⟩
       replace HC := Lib.hid (HC.out.keep hb5)
       have HS5 := Lib.hid hB5
       clear hB5
       try (replace HA8 := Lib.hid (HA8.out.keep hb5 HA8.out.lt))
       clear hb5
       refine hK _ _ ?_
       clear hK K
       refine wpAny_ready (rs := [0,4]) (by kernel_rfl) (by simp) ?_
       refine AllReady.cons rfl (fun K hK => ?_) ?_
       · with_reducible refine step_load_arr rfl 140 (.tmp 7) rfl g7 rfl .u8 64 140 Ky ?hh _ Tryz.underlying140 rfl H64 ?_
         case hh => exact HC.out.k
         refine hK _ _ ?_
         clear hK K
         refine wpAny_ready (rs := [3,4]) (by kernel_rfl) (by simp) ?_
         refine AllReady.cons rfl (fun K hK => ?_) ?_
         · rw [if_pos (by rfl)]
           go_simp
           refine (CK.out _ _ HS5.out (HG.out.keep HC.out.b)).mono ?_
           rintro e w6 ⟨rfl,hb6⟩
           replace HC := Lib.hid (HC.out.keep hb6)
           try (replace HA8 := Lib.hid (HA8.out.keep hb6 HA8.out.lt))
           clear hb6
           refine hK _ _ ?_
           clear hK K
           refine wpAny_ready (rs := [4]) (by kernel_rfl) (by simp) ?_
           refine AllReady.cons rfl (fun K hK => ?_) ?_
           · go_simp
             have HA8 := Lib.hid (der_new HC.out)
             have H78 := Lib.hid HC.out.k.lt
             replace HC := Lib.hid (HC.out.al (.cells (row .u8 32 fun _ => 0) 89))
             try (replace HS5 := Lib.hid (HS5.out.al (.cells (row .u8 32 fun _ => 0) 89)))
             refine hK _ _ ?_
             clear hK K
             refine wpAny_ready (rs := [5]) (by kernel_rfl) (by simp) ?_
             refine AllReady.cons rfl (fun K hK => ?_) ?_
             · with_reducible refine step_store_arr rfl rfl 89 (.tmp 8) (.tmp 21) rfl _ .u8 32 (keyedAt Ky F) rfl rfl 89 _ HA8.out HN ?_
               refine hK _ _ ?_
               clear hK K
               refine wpAny_done (by kernel_rfl) ?_ _
               (go_wp2_with fail; go_meet; exact ⟨_,rfl,der1_mk HC.out HA8.out H78.out⟩)
             exact AllReady.nil
           exact AllReady.nil
         refine AllReady.cons rfl (fun K hK => ?_) ?_
         · go_simp
           have HA8 := Lib.hid (der_new HC.out)
           have H78 := Lib.hid HC.out.k.lt
           replace HC := Lib.hid (HC.out.al (.cells (row .u8 32 fun _ => 0) 89))
           try (replace HS5 := Lib.hid (HS5.out.al (.cells (row .u8 32 fun _ => 0) 89)))
           refine hK _ _ ?_
           clear hK K
           refine wpAny_ready (rs := [3]) (by kernel_rfl) (by simp) ?_
           refine AllReady.cons rfl (fun K hK => ?_) ?_
           · rw [if_pos (by rfl)]
             go_simp
             refine (CK.out _ _ HS5.out (HG.out.keep HC.out.b)).mono ?_
             rintro e w6 ⟨rfl,hb6⟩
             replace HC := Lib.hid (HC.out.keep hb6)
             try (replace HA8 := Lib.hid (HA8.out.keep hb6 HA8.out.lt))
             clear hb6
             refine hK _ _ ?_
             clear hK K
             refine wpAny_ready (rs := [5]) (by kernel_rfl) (by simp) ?_
             refine AllReady.cons rfl (fun K hK => ?_) ?_
             · with_reducible refine step_store_arr rfl rfl 89 (.tmp 8) (.tmp 21) rfl _ .u8 32 (keyedAt Ky F) rfl rfl 89 _ HA8.out HN ?_
               refine hK _ _ ?_
               clear hK K
               refine wpAny_done (by kernel_rfl) ?_ _
               (go_wp2_with fail; go_meet; exact ⟨_,rfl,der1_mk HC.out HA8.out H78.out⟩)
             exact AllReady.nil
           exact AllReady.nil
         exact AllReady.nil
       refine AllReady.cons rfl (fun K hK => ?_) ?_
       · go_simp
         have HA8 := Lib.hid (der_new HC.out)
         have H78 := Lib.hid HC.out.k.lt
         replace HC := Lib.hid (HC.out.al (.cells (row .u8 32 fun _ => 0) 89))
         try (replace HS5 := Lib.hid (HS5.out.al (.cells (row .u8 32 fun _ => 0) 89)))
         refine hK _ _ ?_
         clear hK K
         refine wpAny_ready (rs := [0]) (by kernel_rfl) (by simp) ?_
         refine AllReady.cons rfl (fun K hK => ?_) ?_
         · with_reducible refine step_load_arr rfl 140 (.tmp 7) rfl g7 rfl .u8 64 140 Ky ?hh _ Tryz.underlying140 rfl H64 ?_
           case hh => exact HC.out.k
           refine hK _ _ ?_
           clear hK K
           refine wpAny_ready (rs := [3]) (by kernel_rfl) (by simp) ?_
           refine AllReady.cons rfl (fun K hK => ?_) ?_
           · rw [if_pos (by rfl)]
             go_simp
             refine (CK.out _ _ HS5.out (HG.out.keep HC.out.b)).mono ?_
             rintro e w6 ⟨rfl,hb6⟩
             replace HC := Lib.hid (HC.out.keep hb6)
             try (replace HA8 := Lib.hid (HA8.out.keep hb6 HA8.out.lt))
             clear hb6
             refine hK _ _ ?_
             clear hK K
             refine wpAny_ready (rs := [5]) (by kernel_rfl) (by simp) ?_
             refine AllReady.cons rfl (fun K hK => ?_) ?_
             · with_reducible refine step_store_arr rfl rfl 89 (.tmp 8) (.tmp 21) rfl _ .u8 32 (keyedAt Ky F) rfl rfl 89 _ HA8.out HN ?_
               refine hK _ _ ?_
               clear hK K
               refine wpAny_done (by kernel_rfl) ?_ _
               (go_wp2_with fail; go_meet; exact ⟨_,rfl,der1_mk HC.out HA8.out H78.out⟩)
             exact AllReady.nil
           exact AllReady.nil
         exact AllReady.nil
       exact AllReady.nil
     refine AllReady.cons rfl (fun K hK => ?_) ?_
     · go_simp
       have HA8 := Lib.hid (der_new HC.out)
       have H78 := Lib.hid HC.out.k.lt
       replace HC := Lib.hid (HC.out.al (.cells (row .u8 32 fun _ => 0) 89))
       try (replace HS5 := Lib.hid (HS5.out.al (.cells (row .u8 32 fun _ => 0) 89)))
       refine hK _ _ ?_
       clear hK K
       refine wpAny_ready (rs := [0,2]) (by kernel_rfl) (by simp) ?_
       refine AllReady.cons rfl (fun K hK => ?_) ?_
       · with_reducible refine step_load_arr rfl 140 (.tmp 7) rfl g7 rfl .u8 64 140 Ky ?hh _ Tryz.underlying140 rfl H64 ?_
         case hh => exact HC.out.k
         refine hK _ _ ?_
         clear hK K
         refine wpAny_ready (rs := [2]) (by kernel_rfl) (by simp) ?_
         refine AllReady.cons rfl (fun K hK => ?_) ?_
         · rw [if_pos (by rfl)]
           go_simp
           refine (C2.out _ (HM.out.keep HC.out.b)).mono ?_
           rintro e w5 ⟨g5,rfl,hB5,hb5⟩
           replace HC := Lib.hid (HC.out.keep hb5)
           have HS5 := Lib.hid hB5
           clear hB5
           try (replace HA8 := Lib.hid (HA8.out.keep hb5 HA8.out.lt))
           clear hb5
           refine hK _ _ ?_
           clear hK K
           refine wpAny_ready (rs := [3]) (by kernel_rfl) (by simp) ?_
           refine AllReady.cons rfl (fun K hK => ?_) ?_
           · rw [if_pos (by rfl)]
             go_simp
             refine (CK.out _ _ HS5.out (HG.out.keep HC.out.b)).mono ?_
             rintro e w6 ⟨rfl,hb6⟩
             replace HC := Lib.hid (HC.out.keep hb6)
             try (replace HA8 := Lib.hid (HA8.out.keep hb6 HA8.out.lt))
             clear hb6
             refine hK _ _ ?_
             clear hK K
             refine wpAny_ready (rs := [5]) (by kernel_rfl) (by simp) ?_
             refine AllReady.cons rfl (fun K hK => ?_) ?_
             · with_reducible refine step_store_arr rfl rfl 89 (.tmp 8) (.tmp 21) rfl _ .u8 32 (keyedAt Ky F) rfl rfl 89 _ HA8.out HN ?_
               refine hK _ _ ?_
               clear hK K
               refine wpAny_done (by kernel_rfl) ?_ _
               (go_wp2_with fail; go_meet; exact ⟨_,rfl,der1_mk HC.out HA8.out H78.out⟩)
             exact AllReady.nil
           exact AllReady.nil
         exact AllReady.nil
       refine AllReady.cons rfl (fun K hK => ?_) ?_
       · rw [if_pos (by rfl)]
         go_simp
         refine (C2.out _ (HM.out.keep HC.out.b)).mono ?_
         rintro e w5 ⟨g5,rfl,hB5,hb5⟩
         replace HC := Lib.hid (HC.out.keep hb5)
         have HS5 := Lib.hid hB5
         clear hB5
         try (replace HA8 := Lib.hid (HA8.out.keep hb5 HA8.out.lt))
         clear hb5
         refine hK _ _ ?_
         clear hK K
         refine wpAny_ready (rs := [0]) (by kernel_rfl) (by simp) ?_
         refine AllReady.cons rfl (fun K hK => ?_) ?_
         · with_reducible refine step_load_arr rfl 140 (.tmp 7) rfl g7 rfl .u8 64 140 Ky ?hh _ Tryz.underlying140 rfl H64 ?_
           case hh => exact HC.out.k
           refine hK _ _ ?_
           clear hK K
           refine wpAny_ready (rs := [3]) (by kernel_rfl) (by simp) ?_
           refine AllReady.cons rfl (fun K hK => ?_) ?_
           · rw [if_pos (by rfl)]
             go_simp
             refine (CK.out _ _ HS5.out (HG.out.keep HC.out.b)).mono ?_
             rintro e w6 ⟨rfl,hb6⟩
             replace HC := Lib.hid (HC.out.keep hb6)
             try (replace HA8 := Lib.hid (HA8.out.keep hb6 HA8.out.lt))
             clear hb6
             refine hK _ _ ?_
             clear hK K
             refine wpAny_ready (rs := [5]) (by kernel_rfl) (by simp) ?_
             refine AllReady.cons rfl (fun K hK => ?_) ?_
             · with_reducible refine step_store_arr rfl rfl 89 (.tmp 8) (.tmp 21) rfl _ .u8 32 (keyedAt Ky F) rfl rfl 89 _ HA8.out HN ?_
               refine hK _ _ ?_
               clear hK K
               refine wpAny_done (by kernel_rfl) ?_ _
               (go_wp2_with fail; go_meet; exact ⟨_,rfl,der1_mk HC.out HA8.out H78.out⟩)
             exact AllReady.nil
           exact AllReady.nil
         exact AllReady.nil
       exact AllReady.nil
     exact AllReady.nil
   refine AllReady.cons rfl (fun K hK => ?_) ?_
   · go_simp
     have HA8 := Lib.hid (der_new HC.out)
     have H78 := Lib.hid HC.out.k.lt
     replace HC := Lib.hid (HC.out.al (.cells (row .u8 32 fun _ => 0) 89))
     try (replace HS5 := Lib.hid (HS5.out.al (.cells (row .u8 32 fun _ => 0) 89)))
     refine hK _ _ ?_
     clear hK K
     refine wpAny_ready (rs := [0,1]) (by kernel_rfl) (by simp) ?_
     refine AllReady.cons rfl (fun K hK => ?_) ?_
     · with_reducible refine step_load_arr rfl 140 (.tmp 7) rfl g7 rfl .u8 64 140 Ky ?hh _ Tryz.underlying140 rfl H64 ?_
       case hh => exact HC.out.k
       refine hK _ _ ?_
       clear hK K
       refine wpAny_ready (rs := [1]) (by kernel_rfl) (by simp) ?_
       refine AllReady.cons rfl (fun K hK => ?_) ?_
       · go_simp
         refine hK _ _ ?_
         clear hK K
         refine wpAny_ready (rs := [2]) (by kernel_rfl) (by simp) ?_
         refine AllReady.cons rfl (fun K hK => ?_) ?_
         · rw [if_pos (by rfl)]
           go_simp
           refine (C2.out _ (HM.out.keep HC.out.b)).mono ?_
           rintro e w5 ⟨g5,rfl,hB5,hb5⟩
           replace HC := Lib.hid (HC.out.keep hb5)
           have HS5 := Lib.hid hB5
           clear hB5
           try (replace HA8 := Lib.hid (HA8.out.keep hb5 HA8.out.lt))
           clear hb5
           refine hK _ _ ?_
           clear hK K
           refine wpAny_ready (rs := [3]) (by kernel_rfl) (by simp) ?_
           refine AllReady.cons rfl (fun K hK => ?_) ?_
           · rw [if_pos (by rfl)]
             go_simp
             refine (CK.out _ _ HS5.out (HG.out.keep HC.out.b)).mono ?_
             rintro e w6 ⟨rfl,hb6⟩
             replace HC := Lib.hid (HC.out.keep hb6)
             try (replace HA8 := Lib.hid (HA8.out.keep hb6 HA8.out.lt))
             clear hb6
             refine hK _ _ ?_
             clear hK K
             refine wpAny_ready (rs := [5]) (by kernel_rfl) (by simp) ?_
             refine AllReady.cons rfl (fun K hK => ?_) ?_
             · with_reducible refine step_store_arr rfl rfl 89 (.tmp 8) (.tmp 21) rfl _ .u8 32 (keyedAt Ky F) rfl rfl 89 _ HA8.out HN ?_
               refine hK _ _ ?_
               clear hK K
               refine wpAny_done (by kernel_rfl) ?_ _
               (go_wp2_with fail; go_meet; exact ⟨_,rfl,der1_mk HC.out HA8.out H78.out⟩)
             exact AllReady.nil
           exact AllReady.nil
         exact AllReady.nil
       exact AllReady.nil
     refine AllReady.cons rfl (fun K hK => ?_) ?_
     · go_simp
       refine hK _ _ ?_
       clear hK K
       refine wpAny_ready (rs := [0,2]) (by kernel_rfl) (by simp) ?_
       refine AllReady.cons rfl (fun K hK => ?_) ?_
       · with_reducible refine step_load_arr rfl 140 (.tmp 7) rfl g7 rfl .u8 64 140 Ky ?hh _ Tryz.underlying140 rfl H64 ?_
         case hh => exact HC.out.k
         refine hK _ _ ?_
         clear hK K
         refine wpAny_ready (rs := [2]) (by kernel_rfl) (by simp) ?_
         refine AllReady.cons rfl (fun K hK => ?_) ?_
         · rw [if_pos (by rfl)]
           go_simp
           refine (C2.out _ (HM.out.keep HC.out.b)).mono ?_
           rintro e w5 ⟨g5,rfl,hB5,hb5⟩
           replace HC := Lib.hid (HC.out.keep hb5)
           have HS5 := Lib.hid hB5
           clear hB5
           try (replace HA8 := Lib.hid (HA8.out.keep hb5 HA8.out.lt))
           clear hb5
           refine hK _ _ ?_
           clear hK K
           refine wpAny_ready (rs := [3]) (by kernel_rfl) (by simp) ?_
           refine AllReady.cons rfl (fun K hK => ?_) ?_
           · rw [if_pos (by rfl)]
             go_simp
             refine (CK.out _ _ HS5.out (HG.out.keep HC.out.b)).mono ?_
             rintro e w6 ⟨rfl,hb6⟩
             replace HC := Lib.hid (HC.out.keep hb6)
             try (replace HA8 := Lib.hid (HA8.out.keep hb6 HA8.out.lt))
             clear hb6
             refine hK _ _ ?_
             clear hK K
             refine wpAny_ready (rs := [5]) (by kernel_rfl) (by simp) ?_
             refine AllReady.cons rfl (fun K hK => ?_) ?_
             · with_reducible refine step_store_arr rfl rfl 89 (.tmp 8) (.tmp 21) rfl _ .u8 32 (keyedAt Ky F) rfl rfl 89 _ HA8.out HN ?_
               refine hK _ _ ?_
               clear hK K
               refine wpAny_done (by kernel_rfl) ?_ _
               (go_wp2_with fail; go_meet; exact ⟨_,rfl,der1_mk HC.out HA8.out H78.out⟩)
             exact AllReady.nil
           exact AllReady.nil
         exact AllReady.nil
       refine AllReady.cons rfl (fun K hK => ?_) ?_
       · rw [if_pos (by rfl)]
         go_simp
         refine (C2.out _ (HM.out.keep HC.out.b)).mono ?_
         rintro e w5 ⟨g5,rfl,hB5,hb5⟩
         replace HC := Lib.hid (HC.out.keep hb5)
         have HS5 := Lib.hid hB5
         clear hB5
         try (replace HA8 := Lib.hid (HA8.out.keep hb5 HA8.out.lt))
         clear hb5
         refine hK _ _ ?_
         clear hK K
         refine wpAny_ready (rs := [0]) (by kernel_rfl) (by simp) ?_
         refine AllReady.cons rfl (fun K hK => ?_) ?_
         · with_reducible refine step_load_arr rfl 140 (.tmp 7) rfl g7 rfl .u8 64 140 Ky ?hh _ Tryz.underlying140 rfl H64 ?_
           case hh => exact HC.out.k
           refine hK _ _ ?_
           clear hK K
           refine wpAny_ready (rs := [3]) (by kernel_rfl) (by simp) ?_
           refine AllReady.cons rfl (fun K hK => ?_) ?_
           · rw [if_pos (by rfl)]
             go_simp
             refine (CK.out _ _ HS5.out (HG.out.keep HC.out.b)).mono ?_
             rintro e w6 ⟨rfl,hb6⟩
             replace HC := Lib.hid (HC.out.keep hb6)
             try (replace HA8 := Lib.hid (HA8.out.keep hb6 HA8.out.lt))
             clear hb6
             refine hK _ _ ?_
             clear hK K
             refine wpAny_ready (rs := [5]) (by kernel_rfl) (by simp) ?_
             refine AllReady.cons rfl (fun K hK => ?_) ?_
             · with_reducible refine step_store_arr rfl rfl 89 (.tmp 8) (.tmp 21) rfl _ .u8 32 (keyedAt Ky F) rfl rfl 89 _ HA8.out HN ?_
               refine hK _ _ ?_
               clear hK K
               refine wpAny_done (by kernel_rfl) ?_ _
               (go_wp2_with fail; go_meet; exact ⟨_,rfl,der1_mk HC.out HA8.out H78.out⟩)
             exact AllReady.nil
           exact AllReady.nil
         exact AllReady.nil
       exact AllReady.nil
     exact AllReady.nil
   exact AllReady.nil
  case rest =>
   obtain ⟨g8,rfl,hD⟩ := hcut
   have HU1 := Lib.hid hD.u
   go_wp2_with (first | (with_reducible refine wpList_load_arr rfl 89 (.tmp 8) rfl g8 rfl .u8 32 89 (keyedAt Ky F) HU1.out _ Tryz.underlying89 rfl HN ?_) | (with_reducible refine wpList_store_arr rfl 89 (.tmp 9) (.tmp 22) rfl wc.heap.size .u8 32 (keyedAt Ky F) rfl rfl 89 _ Arr.new HN ?_))
   have hR3 := der2_mk (M := keyedAt Ky F) hD
   generalize World.setRow _ _ _ = w3 at hR3 ⊢
   generalize wc.heap.size = g9 at hR3 ⊢
   rw [HU0.out] at hR3
   have HR3 := Lib.hid (hR3.congr (M' := mixAt Ky s 1) fun j _ => (mixAt_one Ky s j).symm)
   clear hR3 hD HU1
   go_loopw [25] (fun i wr => ∃ k : Nat,k + 1 ≤ r ∧ i = .int .i64 k ∧ Der2 w Ky g7 g8 g9 (uAt Ky s k) (mixAt Ky s (k + 1)) wr) (fun i _ => r - 1 - (intOf i).toNat)
   case atStart => exact ⟨0,h0,rfl,HR3.out⟩
   case round =>
    obtain ⟨k,hk,rfl,hR⟩ := hrel
    by_cases hlt : k + 1 < r
    · have hlt2 : (k : Int) < (r : Int) - 1 := by omega
      have HRk := Lib.hid hR.drew
      clear hR
      have HUk := Lib.hid (uAt_succ Ky s k)
      obtain ⟨V,hV⟩ : ∃ V,V = uAt Ky s (k + 1) := ⟨_,rfl⟩
      rw [← hV] at HUk
      have HV := Lib.hid hV
      have HVL := Lib.hid (show ∀ j,V j < 256 by rw [hV]; exact fun j => uAt_lt Ky s (k + 1) j)
      clear hV
      have CU := Lib.hid (show ∀ W,Bs W (some ⟨g8,0,none⟩) (bytesOf 32 (uAt Ky s k)) → Tabs W → Calls Tryz.prog 127 #[.agg (row .u8 64 Ky),.slice (some ⟨g8,0,none⟩) 32 32] W (fun e w' => e = .returned (.agg (row .u8 32 V)) ∧ Below W.heap.size W w') from fun W h hT => by rw [HUk.out]; exact keyed_any Ky HKL.out _ _ 32 32 W (bytesOf_length _ _) h (by rw [bytesOf_length]; decide) hT)
      go_wp2_with fail
      refine wp_frame (Der2 w Ky g7 g8 g9 V (mixAt Ky s (k + 1))) ?_
      apply Exists.intro
      apply And.intro
      case left =>
       refine wp_region_any (by kernel_rfl) ?_
       change wpAny _ _ _ _ _ _ _ (World.drew _)
       refine wpAny_ready (rs := [0,1]) (by kernel_rfl) (by simp) ?_
       refine AllReady.cons rfl (fun K hK => ?_) ?_
       · with_reducible refine step_load_arr rfl 140 (.tmp 7) rfl g7 rfl .u8 64 140 Ky HRk.out.o.o.k _ Tryz.underlying140 rfl H64 ?_
         refine hK _ _ ?_
         clear hK K
         refine wpAny_ready (rs := [1]) (by kernel_rfl) (by simp) ?_
         refine AllReady.cons rfl (fun K hK => ?_) ?_
         · go_simp
           refine hK _ _ ?_
           clear hK K
           refine wpAny_ready (rs := [2]) (by kernel_rfl) (by simp) ?_
           refine AllReady.cons rfl (fun K hK => ?_) ?_
           · rw [if_pos (by rfl)]
             go_simp
             refine (CU.out _ (arr_bs HRk.out.o.u (uAt_lt Ky s k)) (HG.out.keep HRk.out.o.o.b)).mono ?_
             rintro e w5 ⟨rfl,hb5⟩
             have HR5 := Lib.hid (HRk.out.keep hb5)
             clear hb5
             refine hK _ _ ?_
             clear hK K
             refine wpAny_ready (rs := [3]) (by kernel_rfl) (by simp) ?_
             refine AllReady.cons rfl (fun K hK => ?_) ?_
             · with_reducible refine step_store_arr rfl rfl 89 (.tmp 8) (.tmp 29) rfl g8 .u8 32 V rfl rfl 89 _ HR5.out.o.u HN ?_
               refine hK _ _ ?_
               clear hK K
               refine wpAny_done (by kernel_rfl) ?_ _
               exact ⟨rfl,rfl,HR5.out.put V⟩
             exact AllReady.nil
           exact AllReady.nil
         exact AllReady.nil
       refine AllReady.cons rfl (fun K hK => ?_) ?_
       · go_simp
         refine hK _ _ ?_
         clear hK K
         refine wpAny_ready (rs := [0]) (by kernel_rfl) (by simp) ?_
         refine AllReady.cons rfl (fun K hK => ?_) ?_
         · with_reducible refine step_load_arr rfl 140 (.tmp 7) rfl g7 rfl .u8 64 140 Ky HRk.out.o.o.k _ Tryz.underlying140 rfl H64 ?_
           refine hK _ _ ?_
           clear hK K
           refine wpAny_ready (rs := [2]) (by kernel_rfl) (by simp) ?_
           refine AllReady.cons rfl (fun K hK => ?_) ?_
           · rw [if_pos (by rfl)]
             go_simp
             refine (CU.out _ (arr_bs HRk.out.o.u (uAt_lt Ky s k)) (HG.out.keep HRk.out.o.o.b)).mono ?_
             rintro e w5 ⟨rfl,hb5⟩
             have HR5 := Lib.hid (HRk.out.keep hb5)
             clear hb5
             refine hK _ _ ?_
             clear hK K
             refine wpAny_ready (rs := [3]) (by kernel_rfl) (by simp) ?_
             refine AllReady.cons rfl (fun K hK => ?_) ?_
             · with_reducible refine step_store_arr rfl rfl 89 (.tmp 8) (.tmp 29) rfl g8 .u8 32 V rfl rfl 89 _ HR5.out.o.u HN ?_
               refine hK _ _ ?_
               clear hK K
               refine wpAny_done (by kernel_rfl) ?_ _
               exact ⟨rfl,rfl,HR5.out.put V⟩
             exact AllReady.nil
           exact AllReady.nil
         exact AllReady.nil
       exact AllReady.nil
      case right =>
       intro w6 hR6
       obtain ⟨M,hM⟩ : ∃ M,M = mixAt Ky s (k + 1) := ⟨_,rfl⟩
       have HMS := Lib.hid (show ∀ j,j < 32 → part M V 32 j = mixAt Ky s (k + 1 + 1) j by
        intro j hj
        rw [part_all _ _ _ hj,mixAt_succ,hM,HV.out])
       have HML := Lib.hid (show ∀ j,M j < 256 by rw [hM]; exact fun j => mixAt_lt Ky s j (k + 1))
       rw [← hM] at hR6
       clear hM
       have HU6 := Lib.hid hR6.o.u
       go_wp2_with (with_reducible refine wpList_load_arr rfl 89 (.tmp 8) rfl g8 rfl .u8 32 89 V HU6.out _ Tryz.underlying89 rfl HN ?_)
       have HR6 := Lib.hid hR6
       clear hR6 HU6
       go_loopw [31] (fun i wr => ∃ j : Nat,j ≤ 32 ∧ i = .int .i64 j ∧ Der2 w Ky g7 g8 g9 V (part M V j) wr) (fun i _ => 32 - (intOf i).toNat)
       case atStart => exact ⟨0,by decide,rfl,HR6.out.congr fun j _ => by unfold part; rw [if_neg (Nat.not_lt_zero j)]⟩
       case round =>
        obtain ⟨j,hj,rfl,hRj⟩ := hrel
        by_cases hjl : j < 32
        · have hix := run_index_row (P := Tryz.prog) 89 5 32 .u8 V j Tryz.underlying89 size_u8' agg_u8 hjl
          have c0 := hRj.m.at_ j hjl
          rw [part_at] at c0
          have z0 := hRj.m.frz j
          have hx := u8_xor_nat (M j) (V j) (HML.out j) (HVL.out j)
          have hx1 := HML.out j
          have hx2 := HVL.out j
          have HRj := Lib.hid ((hRj.set j (M j ^^^ V j)).congr fun q _ => part_next M V j q)
          clear hRj
          go_wp2_with fail
          go_roundw
          case rel => exact ⟨j + 1,by omega,by go_num,HRj.out⟩
          case measure => simp [intOf]; omega
        · have HRj := Lib.hid (hRj.congr (M' := mixAt Ky s (k + 1 + 1)) fun q hq => by rw [show j = 32 by omega]; exact HMS.out q hq)
          clear hRj
          go_wp2_with fail
          go_roundw
          case rel => exact ⟨k + 1,by omega,by go_num,by rw [← HV.out]; exact HRj.out⟩
          case measure => simp [intOf]; omega
    · have hlt2 : ¬ (k : Int) < (r : Int) - 1 := by omega
      have hM := hR.m
      have hZ := hR.o.o.z
      have hbw := hR.o.o.b
      rw [show k + 1 = r by omega] at hM
      clear hR HD
      go_wp2_with (first | (with_reducible refine wpList_load_arr rfl 89 (.tmp 9) rfl g9 rfl .u8 32 89 (mixAt Ky s r) hM _ Tryz.underlying89 rfl HN ?_) | (with_reducible refine wpList_store_arr rfl 89 (.tmp 6) (.tmp 43) rfl w.heap.size .u8 32 (mixAt Ky s r) rfl rfl 89 _ hZ HN ?_))
      exact bodyPost_ret (results_arr rfl _ _ w.heap.size 89 .u8 32 (mixAt Ky s r) _ rfl (hZ.setRow _) Tryz.underlying89 rfl HN) rfl ⟨rfl,below_setRow hbw (Nat.le_refl _) _⟩
end Go.Proofs.YtpoinibckmbfcaaGreatDoor.MacT
namespace Go.Proofs.YtpoinibckmbfcaaGreatDoor.HexW
open Go.RowKit Kit HexMath ShaT
set_option linter.unusedVariables false
set_option maxRecDepth 100000
set_option maxHeartbeats 1000000 in
theorem hex_any (p : Option Addr) (l : List UInt8) (cap : Nat) (w : World) (hb : Bs w p l) (hl : l.length ≤ 70368744176640) :
  Calls Tryz.prog 105 #[.slice p l.length cap] w fun e w' => e = .returned (.string ⟨(hexL l).toArray⟩) ∧ Below w.heap.size w w' := by
 obtain ⟨i0,hi0,hz0,hz1,hzb⟩ := info_parts u8_info
 have hmk := run_make (P := Tryz.prog) w 30 5 i0 (.int .u8 0) Tryz.underlying30 hi0 hz0 .i64 .i64 0 (2 * (l.length : Int)) (by omega) (by omega) (by rw [hzb]; omega) (by omega)
 rw [hz1,show (2 * (l.length : Int)).toNat * 1 = 2 * l.length by omega,show (2 * (l.length : Int)).toNat = 2 * l.length by omega] at hmk
 go_enter Tryz.func105,Tryz.ntmps105
 go_wp2_with fail
 go_loopw [3,12] (fun v i wr => ∃ k : Nat,k ≤ l.length ∧ i = .int .i64 k ∧ Below w.heap.size w wr ∧ wr.ownsRow w.heap.size 5 1 v (2 * k) (bv (hexL (l.take k)))) (fun _ i _ => l.length - (intOf i).toNat)
 case atStart => exact ⟨0,Nat.zero_le _,rfl,below1 _ _,World.ownsRow_made w _ (2 * l.length) (Nat.le_refl _) (by unfold maxLen; omega) (by rw [size_madeCells,Nat.mul_one])⟩
 case round =>
  obtain ⟨k,hk,rfl,hbel,hown⟩ := hrel
  have hbs := hbel.size
  by_cases hlt : k < l.length
  · obtain ⟨b,off,rfl,hbl,hc⟩ := (hb.keep hbel) (by omega)
    have hck := hc k hlt
    have h256 := UInt8.toNat_lt l[k]
    have d1 := dig_at (l[k].toNat / 16) (by omega)
    have d2 := dig_at (l[k].toNat % 16) (by omega)
    rw [show ((l[k].toNat / 16 : Nat) : Int) = (l[k].toNat : Int) / 16 by omega] at d1
    rw [show ((l[k].toNat % 16 : Nat) : Int) = (l[k].toNat : Int) % 16 by omega] at d2
    have d3 : bits .and .u8 (l[k].toNat : Int) 15 = (l[k].toNat : Int) % 16 := u8_and15 _ (by omega) (by omega)
    clear hc
    go_wp2_with fail
    have HSN : Hid (hexL (l.take (k + 1)) = hexL (l.take k) ++ [hexD (l[k].toNat / 16),hexD (l[k].toNat % 16)]) := Lib.hid (by rw [List.take_succ_eq_append_getElem hlt,hexL_snoc])
    go_region_law (refine step_append_own rfl (.tmp 16) (.tmp 23) 30 rfl w.heap.size 5 i0 (.int .u8 0) 1 1 Tryz.underlying30 hi0 hz0 hz1 hzb rfl (by decide) u3 (2 * k) _ rfl (by first | exact own_drew (hown.alloc _) | exact (own_drew hown).alloc _) ⟨wr.heap.size,0,none⟩ 2 2 [.int .u8 ((hexD (l[k].toNat / 16)).toNat : Int),.int .u8 ((hexD (l[k].toNat % 16)).toNat : Int)] rfl rfl (by first | exact two_news_drew _ _ _ _ | exact two_news _ _ _ _) (by simp [Value.oneCell']) (by unfold maxLen; omega) (by omega) (by simp; omega) ?_; intro v' w1 hown1 hgrow _)
    all_goals
     have hnb := Lib.hid (show Below w.heap.size w w1 from first_below hbel hbs hgrow (own_base hown))
     clear hgrow d1 d2 d3 hck
     go_wp2_with fail
     go_roundw
     case rel => exact ⟨k + 1,by omega,by go_num,hnb.out,by rw [HSN.out,bv_app,show 2 * (k + 1) = 2 * k + 2 by omega]; exact hown1⟩
     case measure => simp [intOf]; omega
  · have e : hexL (l.take k) = hexL l := by rw [List.take_of_length_le (by omega)]
    rw [e] at hown
    have hback := run_own_string Tryz.underlying30 Tryz.underlying5 Tryz.underlying9 hown
    clear hown e
    go_wp2_with fail
    go_ret
    exact ⟨rfl,hbel⟩
end Go.Proofs.YtpoinibckmbfcaaGreatDoor.HexW
