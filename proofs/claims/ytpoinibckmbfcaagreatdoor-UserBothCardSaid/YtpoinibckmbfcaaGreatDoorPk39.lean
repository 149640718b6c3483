/-
  Packed by program.
-/
import Derived.Test.YtpoinibckmbfcaaGreatDoorPk31
import Derived.Test.YtpoinibckmbfcaaGreatDoorPk32
import Derived.Test.YtpoinibckmbfcaaGreatDoorPk33
import Derived.Test.YtpoinibckmbfcaaGreatDoorPk34
import Derived.Test.YtpoinibckmbfcaaGreatDoorPk35
import Derived.Test.YtpoinibckmbfcaaGreatDoorPk36
import Derived.Test.YtpoinibckmbfcaaGreatDoorPk37
import Derived.Test.YtpoinibckmbfcaaGreatDoorPk38
namespace Go.Proofs.YtpoinibckmbfcaaGreatDoor.UserM
open Go.RowKit Kit StrT RowG RuleT UserT UserR TableMath Low ValT RefUser
open NumW (wordB)
open Go.Sort (grow)
set_option linter.unusedVariables false
set_option maxRecDepth 100000
theorem right_c (p : UP) (w : World) (hg : Gu w) (hU : UIn w p) (hN : p.N.size ≤ 140737488351232) (hh : ∀ x ∈ p.d.hs,x.length ≤ 1048576) (hk : ∀ g ∈ p.d.ks,g.pat.length ≤ 140737488351232) (hc : ∀ x ∈ p.d.cs,x.length ≤ 140737488351232) (hmm : p.nh ≤ 1024 ∧ p.nk ≤ 1024 ∧ p.nc ≤ 1024) :
  Calls Tryz.prog 15 #[p.agg] w fun e w' => e = .returned (.bool (rightU p.d)) ∧ Below w.heap.size w w' := by
 have hl : p.N.data.toList.length = p.N.size := by simp
 have h2 : decide ((p.N.size : Int) ≤ 32) = decide (p.d.name.length ≤ 32) := by
  rw [← hU.en,hl]
  by_cases h : p.N.size ≤ 32
  · rw [decide_eq_true h,decide_eq_true (by omega)]
  · rw [decide_eq_false h,decide_eq_false (by omega)]
 have h3 : (bits .andNot .u64 p.m 72057594037927935 == 0) = decide (p.d.cmds ≤ allM) := by rw [hU.em]; exact mask_bits _ hU.mb
 have HC : RC w p.N p.on p.np p.qh p.nh p.ch p.m p.qk p.nk p.ck p.qc p.nc p.cc p.d (wordB p.d.name) (decide (p.d.name.length ≤ 32)) (decide (p.d.cmds ≤ allM)) (listB p.d.hs MacM.rightB) (listB (p.d.ks.map (·.pat)) wordB) (p.d.ks.all fun g => g.r || g.w) (listB p.d.cs wordB) :=
  ⟨RB.new hU,fun W => by have := NumW.word_any p.N W (by unfold maxLen; omega); rw [hU.en] at this; exact this,h2,h3,fun W h => rec_l p.qh p.d.hs p.nh p.ch W (hg.keep h.out.bl) h.out.ip.h hh,fun W h => pats_row p.qk p.d.ks p.nk p.ck W h.out.ip.k,fun q c W h => word_l q (p.d.ks.map (·.pat)) _ c W h.out (fun x hx => by
   obtain ⟨g,hg,rfl⟩ := List.mem_map.1 hx
   exact hk g hg),fun W h => every_any p.qk p.d.ks p.nk p.ck W h.out.ip.k,fun W h => word_l p.qc p.d.cs p.nc p.cc W h.out.ip.c hc⟩
 rw [right_is]
 generalize wordB p.d.name = b1 at HC ⊢
 generalize decide (p.d.name.length ≤ 32) = b2 at HC ⊢
 generalize decide (p.d.cmds ≤ allM) = b3 at HC ⊢
 generalize listB p.d.hs MacM.rightB = b4 at HC ⊢
 generalize listB (p.d.ks.map (·.pat)) wordB = b5 at HC ⊢
 generalize (p.d.ks.all fun g => g.r || g.w) = b6 at HC ⊢
 generalize listB p.d.cs wordB = b7 at HC ⊢
 cases b1 with
 | false => exact right_w1 _ _ _ _ _ _ _ _ _ _ _ _ _ _ _ _ _ _ _ _ _ HC
 | true =>
   cases b2 with
   | false => exact right_w2 _ _ _ _ _ _ _ _ _ _ _ _ _ _ _ _ _ _ _ _ HC
   | true =>
     cases b3 with
     | false => exact right_w3 _ _ _ _ _ _ _ _ _ _ _ _ _ _ _ _ _ _ _ HC
     | true =>
       cases b4 with
       | false => exact right_w4 _ _ _ _ _ _ _ _ _ _ _ _ _ _ _ _ _ _ HC
       | true =>
         cases b5 with
         | false => exact right_w5 _ _ _ _ _ _ _ _ _ _ _ _ _ _ _ _ _ HC
         | true =>
           cases b6 with
           | false => exact right_w6 _ _ _ _ _ _ _ _ _ _ _ _ _ _ _ _ HC
           | true =>
             cases b7 with
             | false => exact right_w7 _ _ _ _ _ _ _ _ _ _ _ _ _ _ _ HC
             | true => exact right_w8 _ _ _ _ _ _ _ _ _ _ _ _ _ _ _ HC
end Go.Proofs.YtpoinibckmbfcaaGreatDoor.UserM
