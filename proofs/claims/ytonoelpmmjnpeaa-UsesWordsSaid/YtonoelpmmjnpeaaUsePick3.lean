/-
  The landed code of layer 8: the keys of rename.
-/
import Derived.Test.YtonoelpmmjnpeaaUsePick2
namespace Go.Proofs.Ytonoelpmmjnpeaa.UseM
open Go.RowKit Kit StrT UseT TableMath Low MapT RefU
set_option linter.unusedVariables false
set_option maxRecDepth 100000

theorem bel_a (w : World) (o : Obj) : Below w.heap.size w (w.alloc o).drew := (bel1 w o).drew
theorem bel_0 (w : World) : Below w.heap.size w w.drew := (Below.refl w.heap.size w).drew
theorem one_use' (W W' : World) (k : Nat) (A : ByteArray) (a : List UInt8) (r z : Bool) (hA : A = ⟨a.toArray⟩) (hk : k = W.heap.size) (hb : Below (W.heap.size + 1) (W.alloc (.cells #[.string A, .bool r, .bool z] 43)).drew W') : ∀ j, j < 3 → W'.cell? ⟨k, j, none⟩ = (uv ⟨a, r, z⟩)[j]? := fun j hj => by
  rw [hb.cell (p := ⟨k, j, none⟩) (by show k < _; omega)]
  exact one_use W k A a r z hA hk j hj

set_option maxHeartbeats 4000000 in
theorem rename_any (q : Option Addr) (args : List (List UInt8)) (n c : Nat) (w : World) (H : Args w q args n c) (h3 : 3 ≤ n) : Calls Try.prog 43 #[.slice q n c] w (UsesP (keysK 7 args) w) := by
  have CC := Lib.hid (fun W (h : Below w.heap.size w W) => second_change q args n c W (H.keep h) (by omega))
  obtain ⟨b, off, rfl, hlt, hu⟩ := ss_cell H.ss 2 (by have := H.len; omega)
  obtain ⟨T, hT⟩ : ∃ T : ByteArray, T = ⟨(args.getD 2 []).toArray⟩ := ⟨_, rfl⟩
  rw [← hT] at hu
  have HT := Lib.hid hT
  have h2 : (2 : Int) < (n : Int) := by omega
  have hcm := H.capm
  have hcn := H.cap
  have HU := Lib.hid (fun W (h : Below w.heap.size w W) => (h.cell (p := ⟨b, off + 2, none⟩) hlt).trans hu)
  clear H hT
  go_enter Try.func43, Try.ntmps43
  go_wp2_with fail
  have hL : (keysK 2 args).length ≤ 1048576 := by simp [keysK]
  go_region_law (first
    | (go_simp; (with_reducible refine (CC.out _ (by first | exact bel_0 _ | exact bel_a _ _)).mono ?_); rintro e w1 ⟨v, rfl, hv, hb⟩; dsimp only
       have ho : OwnU w.heap.size w1 v (keysK 2 args) := ownU_low hv (by simp)
       have hbw : Below w.heap.size w w1 := by first | exact (bel_0 w).trans (hb.mono (by simp)) | exact (bel_a w _).trans (hb.mono (by simp))
       have hu1 := HU.out w1 hbw)
    | (refine step_append_u (w0 := w) rfl (.tmp 4) (.tmp 9) rfl v (keysK 2 args) rfl (ho.keep (bel1 _ _)) (hbw.alloc hbw.size _) w1.heap.size ⟨args.getD 2 [], false, true⟩ 1 rfl (one_use w1 _ T _ false true HT.out rfl) hL ?_
       intro v' w3 hown1 hb3)
    | (refine step_append_u (w0 := w) rfl (.tmp 4) (.tmp 9) rfl v (keysK 2 args) rfl ho hbw w.heap.size ⟨args.getD 2 [], false, true⟩ 1 rfl (one_use' w w1 _ T _ false true HT.out rfl (hb.mono (by simp))) hL ?_
       intro v' w3 hown1 hb3))
  all_goals
    go_wp2_with fail
    go_ret
    exact ⟨_, rfl, hown1, hb3⟩

end Go.Proofs.Ytonoelpmmjnpeaa.UseM
