/-
  Packed by program.
-/
import Derived.Test.YtpoinibckmbfcaaGreatDoorPk46
import Derived.Test.YtpoinibckmbfcaaGreatDoorPk39
import Derived.Test.YtpoinibckmbfcaaGreatDoorPk47
namespace Go.Proofs.YtpoinibckmbfcaaGreatDoor.UserM
open Go.RowKit Kit StrT RowG RuleT UserT UserR TableMath Low ValT RefUser
open Go.Sort (grow)
open RefRule (results_cell_slot)
set_option linter.unusedVariables false
set_option maxRecDepth 100000
theorem stepL_sh {B : Nat} {u v : UV} {x : List UInt8} (h : stepL u x = some v) (hu : Sh (B + 5) u) (hx : x.length ≤ B) : Sh (B + 5) v ∧ v.name = u.name := by
 unfold stepL at h
 cases hr : ruleD x with
 | none => rw [hr] at h; cases h
 | some r =>
   rw [hr] at h
   simp only at h
   obtain ⟨h1,h2,y,rfl,h5⟩ := apply_inv h
   obtain ⟨ha,hb⟩ := kind_of h1
   have hl := rule_len hr
   refine ⟨sh_set hu (by omega) (fun e => by have := h5 e; cases this) ha hb,?_⟩
   obtain ⟨k,s,a,b,m⟩ := r
   match k,ha,hb with
   | 1,_,_ | 2,_,_ | 3,_,_ | 4,_,_ | 5,_,_ | 6,_,_ | 7,_,_ | 8,_,_ | 9,_,_ | 10,_,_ | 11,_,_ | 12,_,_ | 13,_,_ | 14,_,_ => rfl
theorem foldL_sh {B : Nat} : ∀ (t : List (List UInt8)) (u v : UV),foldL u t = some v → Sh (B + 5) u → (∀ x ∈ t,x.length ≤ B) → u.hs.length ≤ 64 ∧ u.ks.length ≤ 64 ∧ u.cs.length ≤ 64 → Sh (B + 5) v ∧ v.name = u.name ∧ v.hs.length ≤ 64 ∧ v.ks.length ≤ 64 ∧ v.cs.length ≤ 64
  | [],u,v,h,hu,_,hf => by
    injection h with h
    subst h
    exact ⟨hu,rfl,hf⟩
  | x :: t,u,v,h,hu,hx,hf => by
    have h' : ((stepL u x).bind fun v => foldL v t) = some v := h
    cases hs : stepL u x with
    | none => rw [hs] at h'; cases h'
    | some y =>
      rw [hs] at h'
      obtain ⟨h1,h2⟩ := stepL_sh hs hu (hx x (by simp))
      obtain ⟨h3,h4,h5⟩ := foldL_sh t y v h' h1 (fun z hz => hx z (List.mem_cons_of_mem _ hz)) (step_few hs)
      exact ⟨h3,by rw [h4,h2],h5⟩
theorem body_le {d : UV} (hs : Sh 131072 d) (hn : d.name.length ≤ 131072) : ∀ x ∈ wordsD d,x.length ≤ 1048576 := by
 intro x hx
 rw [wordsD_is] at hx
 simp only [List.mem_append,List.mem_map,List.mem_cons,List.not_mem_nil,or_false] at hx
 rcases hx with ((((hx | hx) | ⟨y,hy,rfl⟩) | ⟨g,hg,rfl⟩) | ⟨y,hy,rfl⟩) | hx
 · rcases hx with rfl | rfl | rfl
   · decide
   · omega
   · split <;> decide
 · split at hx
   · rcases List.mem_singleton.1 hx with rfl
     decide
   · cases hx
 · have := hs.h y hy
   rw [List.length_cons]
   omega
 · have := hs.k g hg
   have hm : (markL g).length ≤ 3 := by unfold markL; split <;> (try split) <;> decide
   rw [List.length_append]
   omega
 · have := hs.c y hy
   rw [List.length_cons]
   omega
 · unfold cmdsW at hx
   split at hx
   · rcases List.mem_singleton.1 hx with rfl
     decide
   · rcases List.mem_cons.1 hx with rfl | hx
     · decide
     · obtain ⟨i,hi,rfl⟩ := List.mem_map.1 hx
       have := of_decide_eq_true (List.all_eq_true.1 name_len i (List.mem_range.2 (ids_lt hi)))
       rw [List.length_cons]
       omega
theorem split_le (l : List UInt8) : ∀ x ∈ splitW l,x.length ≤ l.length := fun x hx => by
 have h1 := word_le (splitW l) x hx
 rw [join_split] at h1
 exact h1
theorem at_new {w : World} {p : UP} {x : List UInt8} (h : UIn w p) (hd : p.d = newU x) (k : Nat) : ¬ p.at_ k := by
 have h1 := h.h.l
 have h2 := h.k.l
 have h3 := h.c.l
 rw [hd] at h1 h2 h3
 simp only [newU,List.length_nil] at h1 h2 h3
 rintro (⟨h0,-⟩ | ⟨h0,-⟩ | ⟨h0,-⟩) <;> omega
structure PA (w : World) (q : Option Addr) (n c : Nat) (L : List (List UInt8)) (W : World) : Prop where
 bl : Below w.heap.size w W
 bz : W.heap[w.heap.size]? = some (.cells ucs0 26 (0,0))
 rw : RowIn strE W q n c L
theorem PA.keep {w W W' : World} {q : Option Addr} {n c : Nat} {L : List (List UInt8)} (h : PA w q n c L W) (hb : Below W.heap.size W W') : PA w q n c L W' :=
 ⟨h.bl.trans (hb.mono h.bl.size),by rw [hb.block _ (Array.getElem?_eq_some_iff.1 h.bz).1]; exact h.bz,h.rw.keep hb⟩
theorem PA.lt {w W : World} {q : Option Addr} {n c : Nat} {L : List (List UInt8)} (h : PA w q n c L W) : w.heap.size < W.heap.size := (Array.getElem?_eq_some_iff.1 h.bz).1
theorem PA.tail {w W : World} {b off : Nat} {n c : Nat} {L : List (List UInt8)} (h : PA w (some ⟨b,off,none⟩) n c L W) (h2 : 2 ≤ n) : RowIn strE W (StrT.partAt (some ⟨b,off,none⟩) c 2) (n - 2) (c - 2) (L.drop 2) := by
 have h1 := h.rw.l
 have h3 := h.rw.f
 have h4 := h.rw.b
 have h5 := h.rw.m
 refine ⟨rs_ss.2 (Ss.drop (rs_ss.1 h.rw.r) 2 (by omega) c (by omega)),by rw [List.length_drop,h1],by omega,by omega,by omega,fun e => ?_⟩
 unfold StrT.partAt at e
 split at e
 · cases e
 · cases e
structure PC (w : World) (q : Option Addr) (n c : Nat) (L : List (List UInt8)) (g : Nat) (p : UP) (W : World) : Prop where
 pa : PA w q n c L W
 bx : W.heap[g]? = some (.cells (ucs p) 26 (0,0))
 ip : UIn W p
 ap : ∀ k,p.at_ k → w.heap.size + 1 ≤ k ∧ k ≠ g
 gt : w.heap.size + 1 ≤ g
 gr : ∀ a,0 < n → q = some a → a.block ≠ g
theorem PC.keep {w W W' : World} {q : Option Addr} {n c : Nat} {L : List (List UInt8)} {g : Nat} {p : UP} (h : PC w q n c L g p W) (hb : Below W.heap.size W W') : PC w q n c L g p W' :=
 ⟨h.pa.keep hb,by rw [hb.block _ (Array.getElem?_eq_some_iff.1 h.bx).1]; exact h.bx,h.ip.keep hb,h.ap,h.gt,h.gr⟩
theorem pc_last {w W1 wN wX : World} {q : Option Addr} {n c : Nat} {L : List (List UInt8)} {p2 : UP} (h : PA w q n c L W1) (h1 : Below W1.heap.size W1 wN) (h2 : Below wN.heap.size wN wX) (hi : UIn wX p2) (ha : ∀ k,p2.at_ k → wN.heap.size ≤ k) : PC w q n c L wX.heap.size p2 (wX.alloc (.cells (ucs p2) 26)) := by
 have h3 := h.keep h1
 have h4 := h3.keep h2
 have hl := h3.lt
 have hs := h2.size
 refine ⟨h4.keep (Kit.below1 _ _),heap_alloc_last _ _,hi.keep (Kit.below1 _ _),fun k hk => ?_,by omega,fun a h0 e => ?_⟩
 · have := ha k hk
   have := UIn.lt hi k hk
   omega
 · have := h4.rw.lt h0 a e
   omega
theorem pc_room {w W1 wN wX : World} {q : Option Addr} {n c : Nat} {L : List (List UInt8)} {p2 : UP} {g : Nat} (h : PA w q n c L W1) (h1 : Below W1.heap.size W1 wN) (h2 : Below wN.heap.size wN wX) (hi : UIn wX p2) (ha : ∀ k,p2.at_ k → wN.heap.size ≤ k) (hg : W1.heap.size ≤ g) (hg2 : g < wN.heap.size) (hz : wX.heap[g]? = some (.cells ucs0 26 (0,0))) :
  PC w q n c L g p2 (set7 wX g (.string p2.N) (.bool p2.on) (.bool p2.np) (.slice p2.qh p2.nh p2.ch) (.int .u64 p2.m) (.slice p2.qk p2.nk p2.ck) (.slice p2.qc p2.nc p2.cc)) := by
 have h3 := h.keep h1
 have h4 := h3.keep h2
 have hl := h.lt
 have ho : ∀ k,k ≠ g → (set7 wX g (.string p2.N) (.bool p2.on) (.bool p2.np) (.slice p2.qh p2.nh p2.ch) (.int .u64 p2.m) (.slice p2.qk p2.nk p2.ck) (.slice p2.qc p2.nc p2.cc)).heap[k]? = wX.heap[k]? := fun k hk => set7_other _ _ _ _ _ _ _ _ _ _ hk
 have hgr : ∀ a,0 < n → q = some a → a.block ≠ g := fun a h0 e => by
  have := h.rw.lt h0 a e
  omega
 refine ⟨⟨set7_below h4.bl _ (by omega) _ _ _ _ _ _ _,by rw [ho _ (by omega)]; exact h4.bz,h4.rw.same (by rw [set7_size]; exact Nat.le_refl _) (fun a h0 e => ho _ (hgr a h0 e))⟩,set7_same _ _ _ _ _ _ _ _ _ _ _ _ _ _ _ _ hz,hi.same (by rw [set7_size]; exact Nat.le_refl _) (fun k hk => ho k (by have := ha k hk; omega)),fun k hk => ?_,by omega,hgr⟩
 have := ha k hk
 omega
theorem PC.put {w W : World} {q : Option Addr} {n c : Nat} {L : List (List UInt8)} {g : Nat} {N : ByteArray} {on np : Bool} {qh : Option Addr} {nh ch : Nat} {mm : Int} {qk : Option Addr} {nk ck : Nat} {qc : Option Addr} {nc cc : Nat} {d : UV} (h : PC w q n c L g ⟨N,on,np,qh,nh,ch,mm,qk,nk,ck,qc,nc,cc,d⟩ W) (b : Bool) : PC w q n c L g ⟨N,on,b,qh,nh,ch,mm,qk,nk,ck,qc,nc,cc,{ d with np := b }⟩ (W.setCell ⟨g,2,none⟩ (.bool b)) := by
 have ho : ∀ k,k ≠ g → (W.setCell ⟨g,2,none⟩ (.bool b)).heap[k]? = W.heap[k]? := fun k hk => heap_setCell_other _ _ _ _ hk
 have hs : (W.setCell ⟨g,2,none⟩ (.bool b)).heap.size = W.heap.size := by simp
 have hgt := h.gt
 have hi : UIn (W.setCell ⟨g,2,none⟩ (.bool b)) ⟨N,on,np,qh,nh,ch,mm,qk,nk,ck,qc,nc,cc,d⟩ := h.ip.same (by rw [hs]; exact Nat.le_refl _) (fun k hk => ho k (h.ap k hk).2)
 exact ⟨⟨h.pa.bl.setCell (p := ⟨g,2,none⟩) (by show w.heap.size ≤ g; omega) _,by rw [ho _ (by omega)]; exact h.pa.bz,h.pa.rw.same (by rw [hs]; exact Nat.le_refl _) (fun a h0 e => ho _ (h.gr a h0 e))⟩,heap_setCell_same _ _ 2 _ _ _ h.bx,⟨hi.en,hi.eo,rfl,hi.em,hi.mb,hi.h,hi.k,hi.c⟩,h.ap,h.gt,h.gr⟩
theorem PA.fin {w W W' : World} {q : Option Addr} {n c : Nat} {L : List (List UInt8)} {p : UP} (h : PA w q n c L W) (hb : Below W.heap.size W W') (hi : UIn W' p) (x : List UInt8) (hd : p.d = newU x) : AnsUB (fun _ => False) (newU x) false w (.returned (.tuple #[p.agg,.bool false])) (W'.setRow w.heap.size (ucs p)) :=
 ⟨p,rfl,UIn.row hi _ (fun k hk => absurd hk (at_new hi hd k)),hd,fun k hk => absurd hk (at_new hi hd k),below_setRow (h.keep hb).bl (Nat.le_refl _) _⟩
theorem PC.fin {w W : World} {q : Option Addr} {n c : Nat} {L : List (List UInt8)} {g : Nat} {p : UP} (h : PC w q n c L g p W) : AnsUB (fun _ => False) p.d true w (.returned (.tuple #[p.agg,.bool true])) (W.setRow w.heap.size (ucs p)) :=
 ⟨p,rfl,UIn.row h.ip _ (fun k hk => by have := (h.ap k hk).1; omega),rfl,fun k hk => Or.inr (by have := (h.ap k hk).1; omega),below_setRow h.pa.bl (Nat.le_refl _) _⟩
theorem two_in (k : Nat) : (1 : Int) < ((k + 2 : Nat) : Int) ∧ decide (((k + 2 : Nat) : Int) < 2) = false := ⟨by omega,decide_eq_false (by omega)⟩
theorem sl_two (b off c k : Nat) (hc : k + 2 ≤ c) (W : World) : (Instr.slice 22 (.slice (some ⟨b,off,none⟩) (k + 2) c) (some (.int .i64 2)) none none).run Tryz.prog W = .ok (.slice (StrT.partAt (some ⟨b,off,none⟩) c 2) k (c - 2)) W := by
 have h := StrT.sl_l (some ⟨b,off,none⟩) (k + 2) c 2 (by omega) hc W
 rw [show k + 2 - 2 = k by omega] at h
 exact h
theorem lineD_none {l x n : List UInt8} {t : List (List UInt8)} (hs : splitW l = x :: n :: t) (h : foldL (newU n) t = none) : lineD l = none := by
 unfold lineD
 rw [hs]
 simp only [h]
 rfl
theorem lineD_not {l x n : List UInt8} {t : List (List UInt8)} {v : UV} (hs : splitW l = x :: n :: t) (h : foldL (newU n) t = some v) (hn : ¬ (rightU { v with np := decide (npW ∈ t) } = true ∧ textD { v with np := decide (npW ∈ t) } = l)) : lineD l = none := by
 unfold lineD
 rw [hs]
 simp only [h,Option.bind_some]
 exact if_neg hn
theorem lineD_some {l x n : List UInt8} {t : List (List UInt8)} {v : UV} (hs : splitW l = x :: n :: t) (h : foldL (newU n) t = some v) (hn : rightU { v with np := decide (npW ∈ t) } = true ∧ textD { v with np := decide (npW ∈ t) } = l) : lineD l = some { v with np := decide (npW ∈ t) } := by
 unfold lineD
 rw [hs]
 simp only [h,Option.bind_some]
 exact if_pos hn
set_option maxHeartbeats 16000000 in
theorem parse_c (T : ByteArray) (w : World) (hg : Gu w) (hz : T.size ≤ 65536) : Calls Tryz.prog 13 #[.string T] w (AnsUB (fun _ => False) ((parseD T.data.toList).getD (newU [])) (parseD T.data.toList).isSome w) := by
 have hline := line_is T.data.toList
 have hTl : T.data.toList.length = T.size := by simp
 have hle := split_le T.data.toList
 rw [hTl] at hle
 have CS := Lib.hid (fun W (h : Gu W) => split_told T W hz h.m)
 have CN0 := Lib.hid (fun W => new_any ⟨#[]⟩ W trivial)
 have HG := Lib.hid hg
 have HZ0 := Lib.hid (show (w.alloc (.cells #[.string ⟨#[]⟩,.bool false,.bool false,.slice none 0 0,.int .u64 0,.slice none 0 0,.slice none 0 0] 26)).heap[w.heap.size]? = some (.cells ucs0 26 (0,0)) from heap_alloc_last w _)
 have HB0 := Lib.hid (Kit.below1 w (.cells #[.string ⟨#[]⟩,.bool false,.bool false,.slice none 0 0,.int .u64 0,.slice none 0 0,.slice none 0 0] 26))
 have hcs := fun x0 x1 x2 x3 x4 x5 x6 => user_cs x0 x1 x2 x3 x4 x5 x6
 generalize parseD T.data.toList = oo at hline ⊢
 obtain ⟨Tl,hTT⟩ : ∃ Tl,T.data.toList = Tl := ⟨_,rfl⟩
 rw [hTT] at hline CS hle
 have HT := Lib.hid hTT
 clear hTT hg
 rcases hsp : splitW Tl with _ | ⟨x,_ | ⟨nm,t⟩⟩
 · exact absurd hsp (split_ne Tl)
 · -- no name
   have HOO := Lib.hid (show oo = none by rw [hline]; unfold lineD; rw [hsp])
   have HC := Lib.hid (show Calls Tryz.prog 30 #[.string T,.string ⟨#[32]⟩] (w.alloc (.cells #[.string ⟨#[]⟩,.bool false,.bool false,.slice none 0 0,.int .u64 0,.slice none 0 0,.slice none 0 0] 26)) (AnsRow strE [x] (w.alloc (.cells #[.string ⟨#[]⟩,.bool false,.bool false,.slice none 0 0,.int .u64 0,.slice none 0 0,.slice none 0 0] 26))) from by have := CS.out _ (HG.out.keep HB0.out); rw [hsp] at this; exact this)
   clear hline hsp CS hle hTl
   go_enter Tryz.func13,Tryz.ntmps13
   go_upto_region 1 with fail
   generalize w.alloc _ = w1 at HZ0 HB0 HC ⊢
   go_wp2_with fail
   with_reducible refine HC.out.mono ?_
   rintro e w2 ⟨q,c,rfl,hr,-,hb⟩
   have HA := Lib.hid (PA.mk (HB0.out.trans (hb.mono HB0.out.size)) (by rw [hb.block _ (Array.getElem?_eq_some_iff.1 HZ0.out).1]; exact HZ0.out) hr)
   have hlen : ([x] : List (List UInt8)).length = 1 := rfl
   clear hr hb HC HB0 HZ0
   go_wp2_with fail
   with_reducible refine (CN0.out _).mono ?_
   rintro e w3 ⟨⟨N3,on3,np3,qh3,nh3,ch3,mm3,qk3,nk3,ck3,qc3,nc3,cc3,d3⟩,rfl,hU3,hd3,-,hb3⟩
   have HA3 := Lib.hid (HA.out.keep hb3)
   have HE := Lib.hid (PA.fin HA.out hb3 hU3 [] hd3)
   have HC3 := Lib.hid (hcs (.string N3) (.bool on3) (.bool np3) (.slice qh3 nh3 ch3) (.int .u64 mm3) (.slice qk3 nk3 ck3) (.slice qc3 nc3 cc3))
   have HO3 := Lib.hid (user_one N3 on3 np3 qh3 qk3 qc3 nh3 ch3 nk3 ck3 nc3 cc3 mm3)
   clear hb3 hU3 hd3
   dsimp only [UP.agg]
   go_wp2_with (with_reducible refine wpList_store_row rfl 26 (.tmp 2) (.tmp 12) rfl w.heap.size #[.string N3,.bool on3,.bool np3,.slice qh3 nh3 ch3,.int .u64 mm3,.slice qk3 nk3 ck3,.slice qc3 nc3 cc3] rfl rfl 26 _ HA3.out.bz HC3.out rfl HO3.out ?_)
   exact bodyPost_ret (results_cell_slot rfl _ _ w.heap.size 26 #[.string N3,.bool on3,.bool np3,.slice qh3 nh3 ch3,.int .u64 mm3,.slice qk3 nk3 ck3,.slice qc3 nc3 cc3] (0,0) _ (.bool false) rfl (setRow_heap _ w.heap.size _ _ _ _ HA3.out.bz) Tryz.underlying26 rfl HC3.out rfl) rfl (by rw [HOO.out]; exact HE.out)
 · have hxn : nm.length ≤ 65536 := Nat.le_trans (hle nm (by rw [hsp]; simp)) hz
   have hxt : ∀ y ∈ t,y.length ≤ 65536 := fun y hy => Nat.le_trans (hle y (by rw [hsp]; simp [hy])) hz
   have hn0 := fun h => lineD_none (t := t) hsp h
   have hn1 := fun v h hn => lineD_not (v := v) hsp h hn
   have hn2 := fun v h hn => lineD_some (v := v) hsp h hn
   have hsh := fun v h => foldL_sh (B := 65536) t (newU nm) v h (sh_new _ _) hxt ⟨by simp [newU],by simp [newU],by simp [newU]⟩
   obtain ⟨Nm,hNm,hNm2⟩ := str_s nm
   have HNm := Lib.hid hNm2
   have CN1 := Lib.hid (fun W => (show Calls Tryz.prog 21 #[.string Nm] W (AnsU (fun _ => False) (newU nm) W) from by have := new_any Nm W trivial; rw [hNm] at this; exact this))
   have HC := Lib.hid (show Calls Tryz.prog 30 #[.string T,.string ⟨#[32]⟩] (w.alloc (.cells #[.string ⟨#[]⟩,.bool false,.bool false,.slice none 0 0,.int .u64 0,.slice none 0 0,.slice none 0 0] 26)) (AnsRow strE (x :: nm :: t) (w.alloc (.cells #[.string ⟨#[]⟩,.bool false,.bool false,.slice none 0 0,.int .u64 0,.slice none 0 0,.slice none 0 0] 26))) from by have := CS.out _ (HG.out.keep HB0.out); rw [hsp] at this; exact this)
   have CRu := Lib.hid (fun (N : ByteArray) (on np : Bool) (qh : Option Addr) (nh ch : Nat) (mm : Int) (qk : Option Addr) (nk ck : Nat) (qc : Option Addr) (nc cc : Nat) (d : UV) (q : Option Addr) (n c : Nat) (W : World) (h : Gu W) (hU : UIn W ⟨N,on,np,qh,nh,ch,mm,qk,nk,ck,qc,nc,cc,d⟩) (hd : d = newU nm) (hr : RowIn strE W q n c t) => (show Calls Tryz.prog 31 #[.agg #[.string N,.bool on,.bool np,.slice qh nh ch,.int .u64 mm,.slice qk nk ck,.slice qc nc cc],.slice q n c] W (RuA ⟨N,on,np,qh,nh,ch,mm,qk,nk,ck,qc,nc,cc,d⟩ W (foldL (newU nm) t)) from by
    have := ruled_c ⟨N,on,np,qh,nh,ch,mm,qk,nk,ck,qc,nc,cc,d⟩ q t n c W h hU (by rw [show (UP.d ⟨N,on,np,qh,nh,ch,mm,qk,nk,ck,qc,nc,cc,d⟩) = newU nm from hd]; exact ⟨by simp [newU],by simp [newU],by simp [newU]⟩) hr hxt
    rw [show (UP.d ⟨N,on,np,qh,nh,ch,mm,qk,nk,ck,qc,nc,cc,d⟩) = newU nm from hd] at this
    exact this))
   have HXn := Lib.hid hxn
   have HXt := Lib.hid hxt
   rw [← hline] at hn0 hn1 hn2
   have hcon := fun q n c W (h : RowIn strE W q n c t) => has_any q t n c ⟨#[110,111,112,97,115,115]⟩ W h
   rw [show (⟨#[110,111,112,97,115,115]⟩ : ByteArray).data.toList = npW from rfl] at hcon
   generalize foldL (newU nm) t = F at hn0 hn1 hn2 hsh CRu
   generalize hbb : decide (npW ∈ t) = bb at hn1 hn2 hcon
   obtain ⟨k,hk⟩ : ∃ k,t.length = k := ⟨_,rfl⟩
   have HCon := Lib.hid hcon
   have HN0 := Lib.hid hn0
   have HN1 := Lib.hid hn1
   have HN2 := Lib.hid hn2
   have HSh := Lib.hid hsh
   have HK := Lib.hid hk
   clear hline CS hle hTl hxn hxt hn0 hn1 hn2 hsh hNm2 hNm hsp hbb hcon hk
   obtain ⟨n,hn⟩ : ∃ n,n = k + 2 := ⟨_,rfl⟩
   have HC2 : Hid (Calls Tryz.prog 30 #[.string T,.string ⟨#[32]⟩] (w.alloc (.cells #[.string ⟨#[]⟩,.bool false,.bool false,.slice none 0 0,.int .u64 0,.slice none 0 0,.slice none 0 0] 26)) (fun e w' => ∃ q c,e = .returned (.slice q n c) ∧ RowIn strE w' q n c (x :: nm :: t) ∧ Below (w.alloc (.cells #[.string ⟨#[]⟩,.bool false,.bool false,.slice none 0 0,.int .u64 0,.slice none 0 0,.slice none 0 0] 26)).heap.size (w.alloc (.cells #[.string ⟨#[]⟩,.bool false,.bool false,.slice none 0 0,.int .u64 0,.slice none 0 0,.slice none 0 0] 26)) w')) := Lib.hid (HC.out.mono (fun e w' h => by
    obtain ⟨q,c,he,hr,-,hb⟩ := h
    have e1 : (x :: nm :: t).length = n := by rw [List.length_cons,List.length_cons,HK.out,hn]
    rw [e1] at he hr
    exact ⟨q,c,he,hr,hb⟩))
   clear HC
   go_enter Tryz.func13,Tryz.ntmps13
   go_upto_region 1 with fail
   generalize w.alloc _ = w1 at HZ0 HB0 HC2 ⊢
   go_upto_region 2 with fail
   with_reducible refine HC2.out.mono ?_
   rintro e w2 ⟨q,c,rfl,hr,hb⟩
   have HA := Lib.hid (PA.mk (HB0.out.trans (hb.mono HB0.out.size)) (by rw [hb.block _ (Array.getElem?_eq_some_iff.1 HZ0.out).1]; exact HZ0.out) hr)
   obtain ⟨b,off,rfl,hbl,hc⟩ := rs_ss.1 hr.r (by simp)
   have c1 : w2.cell? ⟨b,off + 1,none⟩ = some (.string Nm) := by
    have := hc 1 (by simp)
    rw [show (x :: nm :: t)[1] = nm from rfl,HNm.out] at this
    exact this
   have c2 : (w2.alloc (.cells #[.string ⟨#[]⟩,.bool false,.bool false,.slice none 0 0,.int .u64 0,.slice none 0 0,.slice none 0 0] 26)).cell? ⟨b,off + 1,none⟩ = some (.string Nm) := by
    have hbw := Kit.below1 w2 (.cells #[.string ⟨#[]⟩,.bool false,.bool false,.slice none 0 0,.int .u64 0,.slice none 0 0,.slice none 0 0] 26)
    rw [hbw.cell (p := ⟨b,off + 1,none⟩) hbl]
    exact c1
   have hnc : n ≤ c := hr.b
   obtain ⟨k1,k2⟩ := two_in k
   rw [← hn] at k1 k2
   have k3 : 1 < n := by omega
   have hsl := fun W => sl_two b off c k (by omega) W
   rw [← hn] at hsl
   have HTl := Lib.hid (fun W (h : PA w (some ⟨b,off,none⟩) n c (x :: nm :: t) W) => (show RowIn strE W (StrT.partAt (some ⟨b,off,none⟩) c 2) k (c - 2) t from by
    have := h.tail (by omega)
    rw [show n - 2 = k by omega] at this
    exact this))
   generalize StrT.partAt (some ⟨b,off,none⟩) c 2 = q2 at hsl HTl
   generalize c - 2 = cz at hsl HTl
   have HSl := Lib.hid hsl
   clear hr hb hc hbl hnc HC2 HB0 HZ0 hn hsl
   go_upto_region 4 with fail
   have hsl := HSl.out
   go_cut [5,6] (fun s5 s6 wx => ∃ (g : Nat) (p2 : UP) (ok : Bool),s5 = .pointer (some ⟨g,0,none⟩) ∧ s6 = .bool ok ∧ Hid (ok = F.isSome ∧ (∀ v,F = some v → p2.d = v) ∧ PC w (some ⟨b,off,none⟩) n c (x :: nm :: t) g p2 wx))
   case first =>
    go_region_law (first
     | (go_simp; (with_reducible refine (CN1.out _).mono ?_); rintro e wN ⟨⟨N1,on1,np1,qh1,nh1,ch1,mm1,qk1,nk1,ck1,qc1,nc1,cc1,d1⟩,rfl,hU1,hd1,-,hb1⟩; dsimp only [UP.agg]
        have hbN : Below w2.heap.size w2 wN := by first | exact b_dr.trans (hb1.mono b_dr.size) | exact (b_ad _ _).trans (hb1.mono (b_ad w2 _).size) | exact (b_da _ _).trans (hb1.mono (b_da w2 _).size)
        have HBn := Lib.hid hbN
        have HAn := Lib.hid (HA.out.keep hbN)
        have HU1 := Lib.hid hU1
        have HD1 := Lib.hid hd1
        first
         | (have HZ1 := Lib.hid (show wN.heap[w2.heap.size]? = some (.cells #[.string ⟨#[]⟩,.bool false,.bool false,.slice none 0 0,.int .u64 0,.slice none 0 0,.slice none 0 0] 26 (0,0)) from (hb1.block w2.heap.size (by simp)).trans (heap_alloc_last w2 _)))
         | skip
        clear hU1 hbN hb1 hd1)
     | (go_simp; (with_reducible refine (CRu.out N1 on1 np1 qh1 nh1 ch1 mm1 qk1 nk1 ck1 qc1 nc1 cc1 d1 _ _ _ _ (by first | exact HG.out.keep HAn.out.bl | exact HG.out.keep (HAn.out.keep (Kit.below1 _ _)).bl) (by first | exact HU1.out | exact HU1.out.keep (Kit.below1 _ _)) HD1.out (by first | exact HTl.out _ HAn.out | exact HTl.out _ (HAn.out.keep (Kit.below1 _ _)))).mono ?_); rintro e wX ⟨⟨N2,on2,np2,qh2,nh2,ch2,mm2,qk2,nk2,ck2,qc2,nc2,cc2,d2⟩,rfl,hU2,hv2,ha2,hb2⟩; dsimp only [UP.agg]
        have ha3 := fun k' hk' => (ha2 k' hk').resolve_left (at_new HU1.out HD1.out k')
        first
         | (have hz := (hb2.block w2.heap.size (Array.getElem?_eq_some_iff.1 HZ1.out).1).trans HZ1.out
            obtain ⟨x0,x1,x2,x3,x4,x5,x6⟩ := u_cells hz
            have fz := fun j => frozen_of_row _ _ j _ _ hz
            have f0 := fz 0
            have f1 := fz 1
            have f2 := fz 2
            have f3 := fz 3
            have f4 := fz 4
            have f5 := fz 5
            have f6 := fz 6
            have HC := Lib.hid (pc_room HA.out HBn.out hb2 hU2 ha3 (Nat.le_refl _) (Array.getElem?_eq_some_iff.1 HZ1.out).1 hz)
            clear fz hz)
         | (have hz := (hb2.block wN.heap.size (by simp)).trans (heap_alloc_last wN _)
            obtain ⟨x0,x1,x2,x3,x4,x5,x6⟩ := u_cells hz
            have fz := fun j => frozen_of_row _ _ j _ _ hz
            have f0 := fz 0
            have f1 := fz 1
            have f2 := fz 2
            have f3 := fz 3
            have f4 := fz 4
            have f5 := fz 5
            have f6 := fz 6
            have HC := Lib.hid (pc_room HA.out (HBn.out.alloc HBn.out.size _) hb2 hU2 ha3 HBn.out.size (by simp) hz)
            clear fz hz)
         | (have HC := Lib.hid (pc_last HA.out HBn.out hb2 hU2 ha3))
        have HV := Lib.hid hv2
        clear hU2 hv2 ha2 ha3 hb2))
    all_goals
     go_wp2_with fail
     go_meet
     first
      | (simp only [set7] at HC; exact ⟨_,_,_,rfl,rfl,Lib.hid ⟨rfl,HV.out,HC.out⟩⟩)
      | exact ⟨_,_,_,rfl,rfl,Lib.hid ⟨rfl,HV.out,HC.out⟩⟩
   case rest =>
    obtain ⟨g,⟨N2,on2,np2,qh2,nh2,ch2,mm2,qk2,nk2,ck2,qc2,nc2,cc2,d2⟩,ok,rfl,rfl,H⟩ := hcut
    have hok := H.out.1
    have HV := Lib.hid H.out.2.1
    have HC := Lib.hid H.out.2.2
    clear H HA c1 c2 CN1 CRu HNm k3
    obtain ⟨u0,u1,u2,u3,u4,u5,u6⟩ := u_cells HC.out.bx
    have fz2 := frozen_of_row _ _ 2 _ _ HC.out.bx
    go_wp2_with fail
    with_reducible refine (HCon.out _ _ _ _ (HTl.out _ HC.out.pa)).mono ?_
    rintro e w5 ⟨rfl,rfl⟩
    go_upto_region 6 with fail
    have HP := Lib.hid (HC.out.put bb)
    generalize World.setCell _ _ _ = W6 at HP ⊢
    clear u0 u1 u2 u3 u4 u5 u6 fz2 HC HTl HCon hsl HSl k1 k2
    cases F with
    | none =>
      subst hok
      have HOO := Lib.hid (HN0.out rfl)
      have HA := Lib.hid HP.out.pa
      clear HN0 HN1 HN2 HSh HV
      go_wp2_with fail
      with_reducible refine (CN0.out _).mono ?_
      rintro e w3 ⟨⟨N3,on3,np3,qh3,nh3,ch3,mm3,qk3,nk3,ck3,qc3,nc3,cc3,d3⟩,rfl,hU3,hd3,-,hb3⟩
      have HA3 := Lib.hid (HA.out.keep hb3)
      have HE := Lib.hid (PA.fin HA.out hb3 hU3 [] hd3)
      have HC3 := Lib.hid (hcs (.string N3) (.bool on3) (.bool np3) (.slice qh3 nh3 ch3) (.int .u64 mm3) (.slice qk3 nk3 ck3) (.slice qc3 nc3 cc3))
      have HO3 := Lib.hid (user_one N3 on3 np3 qh3 qk3 qc3 nh3 ch3 nk3 ck3 nc3 cc3 mm3)
      clear hb3 hU3 hd3
      dsimp only [UP.agg]
      go_wp2_with (with_reducible refine wpList_store_row rfl 26 (.tmp 2) (.tmp 40) rfl w.heap.size #[.string N3,.bool on3,.bool np3,.slice qh3 nh3 ch3,.int .u64 mm3,.slice qk3 nk3 ck3,.slice qc3 nc3 cc3] rfl rfl 26 _ HA3.out.bz HC3.out rfl HO3.out ?_)
      exact bodyPost_ret (results_cell_slot rfl _ _ w.heap.size 26 #[.string N3,.bool on3,.bool np3,.slice qh3 nh3 ch3,.int .u64 mm3,.slice qk3 nk3 ck3,.slice qc3 nc3 cc3] (0,0) _ (.bool false) rfl (setRow_heap _ w.heap.size _ _ _ _ HA3.out.bz) Tryz.underlying26 rfl HC3.out rfl) rfl (by rw [HOO.out]; exact HE.out)
    | some v =>
      subst hok
      obtain rfl : d2 = v := HV.out v rfl
      obtain ⟨hsh,hnm,hlh,hlk,hlc⟩ := HSh.out d2 rfl
      have hen : N2.data.toList = d2.name := HP.out.ip.en
      have hNz : N2.size ≤ 65536 := by
       have h1 : N2.data.toList.length = N2.size := by simp
       rw [hen,hnm] at h1
       have := HXn.out
       simp only [newU] at h1
       omega
      have hl1 : d2.hs.length = nh2 := HP.out.ip.h.l
      have hl2 : d2.ks.length = nk2 := HP.out.ip.k.l
      have hl3 : d2.cs.length = nc2 := HP.out.ip.c.l
      have CR : Hid (Calls Tryz.prog 15 #[.agg #[.string N2,.bool on2,.bool bb,.slice qh2 nh2 ch2,.int .u64 mm2,.slice qk2 nk2 ck2,.slice qc2 nc2 cc2]] W6 fun e w' => e = .returned (.bool (rightU { d2 with np := bb })) ∧ Below W6.heap.size W6 w') := Lib.hid (right_c ⟨N2,on2,bb,qh2,nh2,ch2,mm2,qk2,nk2,ck2,qc2,nc2,cc2,{ d2 with np := bb }⟩ W6 (HG.out.keep HP.out.pa.bl) HP.out.ip (by show N2.size ≤ _; omega) (fun x hx => Nat.le_trans (hsh.h x hx) (by decide)) (fun x hx => Nat.le_trans (hsh.k x hx) (by decide)) (fun x hx => Nat.le_trans (hsh.c x hx) (by decide)) ⟨by show nh2 ≤ 1024; omega,by show nk2 ≤ 1024; omega,by show nc2 ≤ 1024; omega⟩)
      have hbl : ∀ x ∈ wordsD { d2 with np := bb },x.length ≤ 1048576 := body_le ⟨fun x hx => Nat.le_trans (hsh.h x hx) (by decide),fun x hx => Nat.le_trans (hsh.k x hx) (by decide),fun x hx => Nat.le_trans (hsh.c x hx) (by decide)⟩ (by
       show d2.name.length ≤ _
       rw [hnm]
       have := HXn.out
       simp only [newU]
       omega)
      have HBl := Lib.hid hbl
      have h1 := HN1.out d2 rfl
      have h2 := HN2.out d2 rfl
      clear HN0 HN1 HN2 HSh HV hsh hnm hlh hlk hlc hen hNz hl1 hl2 hl3 hbl
      obtain ⟨u0,u1,u2,u3,u4,u5,u6⟩ := u_cells HP.out.bx
      cases hr : rightU { d2 with np := bb } with
      | false =>
        have HOO := Lib.hid (h1 (fun h => by rw [hr] at h; cases h.1))
        rw [hr] at CR
        clear h1 h2 hr HBl
        go_wp2_with fail
        with_reducible refine CR.out.mono ?_
        rintro e w7 ⟨rfl,hb7⟩
        have HA := Lib.hid (HP.out.keep hb7).pa
        clear hb7 CR HP u0 u1 u2 u3 u4 u5 u6
        go_wp2_with fail
        with_reducible refine (CN0.out _).mono ?_
        rintro e w3 ⟨⟨N3,on3,np3,qh3,nh3,ch3,mm3,qk3,nk3,ck3,qc3,nc3,cc3,d3⟩,rfl,hU3,hd3,-,hb3⟩
        have HA3 := Lib.hid (HA.out.keep hb3)
        have HE := Lib.hid (PA.fin HA.out hb3 hU3 [] hd3)
        have HC3 := Lib.hid (hcs (.string N3) (.bool on3) (.bool np3) (.slice qh3 nh3 ch3) (.int .u64 mm3) (.slice qk3 nk3 ck3) (.slice qc3 nc3 cc3))
        have HO3 := Lib.hid (user_one N3 on3 np3 qh3 qk3 qc3 nh3 ch3 nk3 ck3 nc3 cc3 mm3)
        clear hb3 hU3 hd3
        dsimp only [UP.agg]
        go_wp2_with (with_reducible refine wpList_store_row rfl 26 (.tmp 2) (.tmp 40) rfl w.heap.size #[.string N3,.bool on3,.bool np3,.slice qh3 nh3 ch3,.int .u64 mm3,.slice qk3 nk3 ck3,.slice qc3 nc3 cc3] rfl rfl 26 _ HA3.out.bz HC3.out rfl HO3.out ?_)
        exact bodyPost_ret (results_cell_slot rfl _ _ w.heap.size 26 #[.string N3,.bool on3,.bool np3,.slice qh3 nh3 ch3,.int .u64 mm3,.slice qk3 nk3 ck3,.slice qc3 nc3 cc3] (0,0) _ (.bool false) rfl (setRow_heap _ w.heap.size _ _ _ _ HA3.out.bz) Tryz.underlying26 rfl HC3.out rfl) rfl (by rw [HOO.out]; exact HE.out)
      | true =>
        rw [hr] at CR
        obtain ⟨V,hV,hV2⟩ := str_s (textD { d2 with np := bb })
        have CT : Hid (∀ W,PC w (some ⟨b,off,none⟩) n c (x :: nm :: t) g ⟨N2,on2,bb,qh2,nh2,ch2,mm2,qk2,nk2,ck2,qc2,nc2,cc2,{ d2 with np := bb }⟩ W → Calls Tryz.prog 17 #[.agg #[.string N2,.bool on2,.bool bb,.slice qh2 nh2 ch2,.int .u64 mm2,.slice qk2 nk2 ck2,.slice qc2 nc2 cc2]] W fun e w' => e = .returned (.string V) ∧ Below W.heap.size W w') := Lib.hid (fun W h => by
         have := text_w ⟨N2,on2,bb,qh2,nh2,ch2,mm2,qk2,nk2,ck2,qc2,nc2,cc2,{ d2 with np := bb }⟩ W h.ip ((right_iff _).1 hr) HBl.out
         rw [← hV2]
         exact this)
        by_cases ht : V = T
        · subst ht
          have HOO := Lib.hid (h2 ⟨hr,by rw [← hV]; exact HT.out⟩)
          have e0 : (V.toList == V.toList) = true := beq_self_eq_true _
          clear h1 h2 hr HBl hV hV2
          go_wp2_with fail
          with_reducible refine CR.out.mono ?_
          rintro e w7 ⟨rfl,hb7⟩
          have HP7 := Lib.hid (HP.out.keep hb7)
          clear hb7 CR HP u0 u1 u2 u3 u4 u5 u6
          obtain ⟨u0,u1,u2,u3,u4,u5,u6⟩ := u_cells HP7.out.bx
          go_wp2_with fail
          with_reducible refine (CT.out _ HP7.out).mono ?_
          rintro e w8 ⟨rfl,hb8⟩
          have HP8 := Lib.hid (HP7.out.keep hb8)
          have HE := Lib.hid HP8.out.fin
          have HC3 := Lib.hid (hcs (.string N2) (.bool on2) (.bool bb) (.slice qh2 nh2 ch2) (.int .u64 mm2) (.slice qk2 nk2 ck2) (.slice qc2 nc2 cc2))
          have HO3 := Lib.hid (user_one N2 on2 bb qh2 qk2 qc2 nh2 ch2 nk2 ck2 nc2 cc2 mm2)
          clear hb8 HP7 CT u0 u1 u2 u3 u4 u5 u6
          obtain ⟨u0,u1,u2,u3,u4,u5,u6⟩ := u_cells HP8.out.bx
          go_wp2_with (with_reducible refine wpList_store_row rfl 26 (.tmp 2) (.tmp 41) rfl w.heap.size #[.string N2,.bool on2,.bool bb,.slice qh2 nh2 ch2,.int .u64 mm2,.slice qk2 nk2 ck2,.slice qc2 nc2 cc2] rfl rfl 26 _ HP8.out.pa.bz HC3.out rfl HO3.out ?_)
          exact bodyPost_ret (results_cell_slot rfl _ _ w.heap.size 26 #[.string N2,.bool on2,.bool bb,.slice qh2 nh2 ch2,.int .u64 mm2,.slice qk2 nk2 ck2,.slice qc2 nc2 cc2] (0,0) _ (.bool true) rfl (setRow_heap _ w.heap.size _ _ _ _ HP8.out.pa.bz) Tryz.underlying26 rfl HC3.out rfl) rfl (by rw [HOO.out]; exact HE.out)
        · have HOO := Lib.hid (h1 (fun h => ht (by
           have e1 : V.data.toList = T.data.toList := by rw [hV,h.2]; exact HT.out.symm
           obtain ⟨⟨a⟩⟩ := V
           obtain ⟨⟨b⟩⟩ := T
           exact congrArg (fun l => (⟨⟨l⟩⟩ : ByteArray)) e1)))
          have e0 : (V.toList == T.toList) = false := beq_eq_false_iff_ne.2 (fun h => ht (by
           rw [Go.ByteArray.toList_eq,Go.ByteArray.toList_eq] at h
           obtain ⟨⟨a⟩⟩ := V
           obtain ⟨⟨b⟩⟩ := T
           exact congrArg (fun l => (⟨⟨l⟩⟩ : ByteArray)) h))
          clear h1 h2 hr HBl hV hV2 ht
          go_wp2_with fail
          with_reducible refine CR.out.mono ?_
          rintro e w7 ⟨rfl,hb7⟩
          have HP7 := Lib.hid (HP.out.keep hb7)
          clear hb7 CR HP u0 u1 u2 u3 u4 u5 u6
          obtain ⟨u0,u1,u2,u3,u4,u5,u6⟩ := u_cells HP7.out.bx
          go_wp2_with fail
          with_reducible refine (CT.out _ HP7.out).mono ?_
          rintro e w8 ⟨rfl,hb8⟩
          have HA := Lib.hid (HP7.out.keep hb8).pa
          clear hb8 HP7 CT u0 u1 u2 u3 u4 u5 u6
          go_wp2_with fail
          with_reducible refine (CN0.out _).mono ?_
          rintro e w3 ⟨⟨N3,on3,np3,qh3,nh3,ch3,mm3,qk3,nk3,ck3,qc3,nc3,cc3,d3⟩,rfl,hU3,hd3,-,hb3⟩
          have HA3 := Lib.hid (HA.out.keep hb3)
          have HE := Lib.hid (PA.fin HA.out hb3 hU3 [] hd3)
          have HC3 := Lib.hid (hcs (.string N3) (.bool on3) (.bool np3) (.slice qh3 nh3 ch3) (.int .u64 mm3) (.slice qk3 nk3 ck3) (.slice qc3 nc3 cc3))
          have HO3 := Lib.hid (user_one N3 on3 np3 qh3 qk3 qc3 nh3 ch3 nk3 ck3 nc3 cc3 mm3)
          clear hb3 hU3 hd3
          dsimp only [UP.agg]
          go_wp2_with (with_reducible refine wpList_store_row rfl 26 (.tmp 2) (.tmp 40) rfl w.heap.size #[.string N3,.bool on3,.bool np3,.slice qh3 nh3 ch3,.int .u64 mm3,.slice qk3 nk3 ck3,.slice qc3 nc3 cc3] rfl rfl 26 _ HA3.out.bz HC3.out rfl HO3.out ?_)
          exact bodyPost_ret (results_cell_slot rfl _ _ w.heap.size 26 #[.string N3,.bool on3,.bool np3,.slice qh3 nh3 ch3,.int .u64 mm3,.slice qk3 nk3 ck3,.slice qc3 nc3 cc3] (0,0) _ (.bool false) rfl (setRow_heap _ w.heap.size _ _ _ _ HA3.out.bz) Tryz.underlying26 rfl HC3.out rfl) rfl (by rw [HOO.out]; exact HE.out)
end Go.Proofs.YtpoinibckmbfcaaGreatDoor.UserM
