/-
  Packed by program.
-/
import Derived.Test.YtpoinibckmbfcaaGreatDoorPk02
namespace Go.Proofs.YtpoinibckmbfcaaGreatDoor.RefT
open Go.RowKit Kit ShaMath
set_option linter.unusedVariables false
set_option maxRecDepth 100000
set_option maxHeartbeats 400000 in
theorem whole_any (n : Int) (w : World) (h0 : 0 ≤ n) (h1 : n ≤ 18446744073709551615) :
  Calls Tryz.prog 172 #[.int .u64 n] w fun e w' => e = .returned (.int .u64 (n % 4294967296)) ∧ w = w' := by
 have q : n.tmod 4294967296 = n % 4294967296 := Int.tmod_eq_emod_of_nonneg h0
 go_enter Tryz.func172,Tryz.ntmps172
 go_wp2
 go_ret
 exact ⟨rfl,rfl⟩
theorem u64_xor_small (a b : Nat) (ha : a < 4294967296) (hb : b < 4294967296) : bits .xor .u64 (a : Int) (b : Int) = ((a ^^^ b : Nat) : Int) := u64_xor_nat _ _ (by omega) (by omega)
set_option maxHeartbeats 400000 in
theorem odd_any (a b c : Nat) (w : World) (ha : a < 4294967296) (hb : b < 4294967296) (hc : c < 4294967296) :
  Calls Tryz.prog 173 #[.int .u64 a,.int .u64 b,.int .u64 c] w fun e w' => e = .returned (.int .u64 ((a ^^^ b ^^^ c : Nat) : Int)) ∧ w = w' := by
 have HV := Lib.hid (show bits .xor .u64 (bits .xor .u64 (a : Int) (b : Int)) (c : Int) = ((a ^^^ b ^^^ c : Nat) : Int) by rw [u64_xor_small _ _ ha hb,u64_xor_small _ _ (xor_lt _ _ ha hb) hc])
 go_enter Tryz.func173,Tryz.ntmps173
 go_wp2
 go_ret
 exact ⟨by rw [← HV.out]; rfl,rfl⟩
theorem whole_q (n : Int) (w : World) (h0 : 0 ≤ n) (h1 : n ≤ 18446744073709551615) :
  Calls Tryz.prog 172 #[.int .u64 n] w fun e w' => e = .returned (.int .u64 (n % 4294967296)) ∧ w' = w :=
 (whole_any n w h0 h1).mono fun _ _ ⟨h,e⟩ => ⟨h,e.symm⟩
theorem rot_val (x n : Nat) : (x : Int) / ((2 ^ n : Nat) : Int) + (x : Int) * ((2 ^ (32 - n) : Nat) : Int) % 4294967296 = (rot x n : Int) := by
 unfold rot
 simp
set_option maxHeartbeats 400000 in
theorem rturn_2 (x : Nat) (w : World) (hx : x < 4294967296) :
  Calls Tryz.prog 174 #[.int .u64 x,.int .i64 2] w fun e w' => e = .returned (.int .u64 (rot x 2)) ∧ ∃ q,w' = w.drewN q := by
 have HV : Hid ((x : Int) / 4 + (x : Int) * 1073741824 % 4294967296 = (rot x 2 : Int)) := Lib.hid (rot_val x 2)
 go_enter Tryz.func174,Tryz.ntmps174
 go_wp2_with fail
 go_quiet ((go_at_call 172; exact Calls.quiet_of_same (whole_q _ _ (by omega) (by omega))))
 go_wp2
 go_ret
 exact ⟨by rw [← HV.out]; rfl,_,rfl⟩
set_option maxHeartbeats 400000 in
theorem rturn_6 (x : Nat) (w : World) (hx : x < 4294967296) :
  Calls Tryz.prog 174 #[.int .u64 x,.int .i64 6] w fun e w' => e = .returned (.int .u64 (rot x 6)) ∧ ∃ q,w' = w.drewN q := by
 have HV : Hid ((x : Int) / 64 + (x : Int) * 67108864 % 4294967296 = (rot x 6 : Int)) := Lib.hid (rot_val x 6)
 go_enter Tryz.func174,Tryz.ntmps174
 go_wp2_with fail
 go_quiet ((go_at_call 172; exact Calls.quiet_of_same (whole_q _ _ (by omega) (by omega))))
 go_wp2
 go_ret
 exact ⟨by rw [← HV.out]; rfl,_,rfl⟩
set_option maxHeartbeats 400000 in
theorem rturn_7 (x : Nat) (w : World) (hx : x < 4294967296) :
  Calls Tryz.prog 174 #[.int .u64 x,.int .i64 7] w fun e w' => e = .returned (.int .u64 (rot x 7)) ∧ ∃ q,w' = w.drewN q := by
 have HV : Hid ((x : Int) / 128 + (x : Int) * 33554432 % 4294967296 = (rot x 7 : Int)) := Lib.hid (rot_val x 7)
 go_enter Tryz.func174,Tryz.ntmps174
 go_wp2_with fail
 go_quiet ((go_at_call 172; exact Calls.quiet_of_same (whole_q _ _ (by omega) (by omega))))
 go_wp2
 go_ret
 exact ⟨by rw [← HV.out]; rfl,_,rfl⟩
set_option maxHeartbeats 400000 in
theorem rturn_11 (x : Nat) (w : World) (hx : x < 4294967296) :
  Calls Tryz.prog 174 #[.int .u64 x,.int .i64 11] w fun e w' => e = .returned (.int .u64 (rot x 11)) ∧ ∃ q,w' = w.drewN q := by
 have HV : Hid ((x : Int) / 2048 + (x : Int) * 2097152 % 4294967296 = (rot x 11 : Int)) := Lib.hid (rot_val x 11)
 go_enter Tryz.func174,Tryz.ntmps174
 go_wp2_with fail
 go_quiet ((go_at_call 172; exact Calls.quiet_of_same (whole_q _ _ (by omega) (by omega))))
 go_wp2
 go_ret
 exact ⟨by rw [← HV.out]; rfl,_,rfl⟩
set_option maxHeartbeats 400000 in
theorem rturn_13 (x : Nat) (w : World) (hx : x < 4294967296) :
  Calls Tryz.prog 174 #[.int .u64 x,.int .i64 13] w fun e w' => e = .returned (.int .u64 (rot x 13)) ∧ ∃ q,w' = w.drewN q := by
 have HV : Hid ((x : Int) / 8192 + (x : Int) * 524288 % 4294967296 = (rot x 13 : Int)) := Lib.hid (rot_val x 13)
 go_enter Tryz.func174,Tryz.ntmps174
 go_wp2_with fail
 go_quiet ((go_at_call 172; exact Calls.quiet_of_same (whole_q _ _ (by omega) (by omega))))
 go_wp2
 go_ret
 exact ⟨by rw [← HV.out]; rfl,_,rfl⟩
set_option maxHeartbeats 400000 in
theorem rturn_17 (x : Nat) (w : World) (hx : x < 4294967296) :
  Calls Tryz.prog 174 #[.int .u64 x,.int .i64 17] w fun e w' => e = .returned (.int .u64 (rot x 17)) ∧ ∃ q,w' = w.drewN q := by
 have HV : Hid ((x : Int) / 131072 + (x : Int) * 32768 % 4294967296 = (rot x 17 : Int)) := Lib.hid (rot_val x 17)
 go_enter Tryz.func174,Tryz.ntmps174
 go_wp2_with fail
 go_quiet ((go_at_call 172; exact Calls.quiet_of_same (whole_q _ _ (by omega) (by omega))))
 go_wp2
 go_ret
 exact ⟨by rw [← HV.out]; rfl,_,rfl⟩
set_option maxHeartbeats 400000 in
theorem rturn_18 (x : Nat) (w : World) (hx : x < 4294967296) :
  Calls Tryz.prog 174 #[.int .u64 x,.int .i64 18] w fun e w' => e = .returned (.int .u64 (rot x 18)) ∧ ∃ q,w' = w.drewN q := by
 have HV : Hid ((x : Int) / 262144 + (x : Int) * 16384 % 4294967296 = (rot x 18 : Int)) := Lib.hid (rot_val x 18)
 go_enter Tryz.func174,Tryz.ntmps174
 go_wp2_with fail
 go_quiet ((go_at_call 172; exact Calls.quiet_of_same (whole_q _ _ (by omega) (by omega))))
 go_wp2
 go_ret
 exact ⟨by rw [← HV.out]; rfl,_,rfl⟩
set_option maxHeartbeats 400000 in
theorem rturn_19 (x : Nat) (w : World) (hx : x < 4294967296) :
  Calls Tryz.prog 174 #[.int .u64 x,.int .i64 19] w fun e w' => e = .returned (.int .u64 (rot x 19)) ∧ ∃ q,w' = w.drewN q := by
 have HV : Hid ((x : Int) / 524288 + (x : Int) * 8192 % 4294967296 = (rot x 19 : Int)) := Lib.hid (rot_val x 19)
 go_enter Tryz.func174,Tryz.ntmps174
 go_wp2_with fail
 go_quiet ((go_at_call 172; exact Calls.quiet_of_same (whole_q _ _ (by omega) (by omega))))
 go_wp2
 go_ret
 exact ⟨by rw [← HV.out]; rfl,_,rfl⟩
set_option maxHeartbeats 400000 in
theorem rturn_22 (x : Nat) (w : World) (hx : x < 4294967296) :
  Calls Tryz.prog 174 #[.int .u64 x,.int .i64 22] w fun e w' => e = .returned (.int .u64 (rot x 22)) ∧ ∃ q,w' = w.drewN q := by
 have HV : Hid ((x : Int) / 4194304 + (x : Int) * 1024 % 4294967296 = (rot x 22 : Int)) := Lib.hid (rot_val x 22)
 go_enter Tryz.func174,Tryz.ntmps174
 go_wp2_with fail
 go_quiet ((go_at_call 172; exact Calls.quiet_of_same (whole_q _ _ (by omega) (by omega))))
 go_wp2
 go_ret
 exact ⟨by rw [← HV.out]; rfl,_,rfl⟩
set_option maxHeartbeats 400000 in
theorem rturn_25 (x : Nat) (w : World) (hx : x < 4294967296) :
  Calls Tryz.prog 174 #[.int .u64 x,.int .i64 25] w fun e w' => e = .returned (.int .u64 (rot x 25)) ∧ ∃ q,w' = w.drewN q := by
 have HV : Hid ((x : Int) / 33554432 + (x : Int) * 128 % 4294967296 = (rot x 25 : Int)) := Lib.hid (rot_val x 25)
 go_enter Tryz.func174,Tryz.ntmps174
 go_wp2_with fail
 go_quiet ((go_at_call 172; exact Calls.quiet_of_same (whole_q _ _ (by omega) (by omega))))
 go_wp2
 go_ret
 exact ⟨by rw [← HV.out]; rfl,_,rfl⟩
theorem build_table (w : World) : (Instr.build 175 #[(0,.int .u64 1116352408),(1,.int .u64 1899447441),(2,.int .u64 3049323471),(3,.int .u64 3921009573),(4,.int .u64 961987163),(5,.int .u64 1508970993),(6,.int .u64 2453635748),(7,.int .u64 2870763221),(8,.int .u64 3624381080),(9,.int .u64 310598401),(10,.int .u64 607225278),(11,.int .u64 1426881987),(12,.int .u64 1925078388),(13,.int .u64 2162078206),(14,.int .u64 2614888103),(15,.int .u64 3248222580),(16,.int .u64 3835390401),(17,.int .u64 4022224774),(18,.int .u64 264347078),(19,.int .u64 604807628),(20,.int .u64 770255983),(21,.int .u64 1249150122),(22,.int .u64 1555081692),(23,.int .u64 1996064986),(24,.int .u64 2554220882),(25,.int .u64 2821834349),(26,.int .u64 2952996808),(27,.int .u64 3210313671),(28,.int .u64 3336571891),(29,.int .u64 3584528711),(30,.int .u64 113926993),(31,.int .u64 338241895),(32,.int .u64 666307205),(33,.int .u64 773529912),(34,.int .u64 1294757372),(35,.int .u64 1396182291),(36,.int .u64 1695183700),(37,.int .u64 1986661051),(38,.int .u64 2177026350),(39,.int .u64 2456956037),(40,.int .u64 2730485921),(41,.int .u64 2820302411),(42,.int .u64 3259730800),(43,.int .u64 3345764771),(44,.int .u64 3516065817),(45,.int .u64 3600352804),(46,.int .u64 4094571909),(47,.int .u64 275423344),(48,.int .u64 430227734),(49,.int .u64 506948616),(50,.int .u64 659060556),(51,.int .u64 883997877),(52,.int .u64 958139571),(53,.int .u64 1322822218),(54,.int .u64 1537002063),(55,.int .u64 1747873779),(56,.int .u64 1955562222),(57,.int .u64 2024104815),(58,.int .u64 2227730452),(59,.int .u64 2361852424),(60,.int .u64 2428436474),(61,.int .u64 2756734187),(62,.int .u64 3204031479),(63,.int .u64 3329325298)]).run Tryz.prog w = .ok (.agg (row .u64 64 kAt)) w := run_build w 175 _ _ (by kernel_rfl)
theorem build_first (w : World) : (Instr.build 162 #[(0,.int .u64 1779033703),(1,.int .u64 3144134277),(2,.int .u64 1013904242),(3,.int .u64 2773480762),(4,.int .u64 1359893119),(5,.int .u64 2600822924),(6,.int .u64 528734635),(7,.int .u64 1541459225)]).run Tryz.prog w = .ok (.agg (row .u64 8 H0.get)) w := run_build w 162 _ _ (by kernel_rfl)
theorem info_r8 : (Tryz.prog.info? 162).map (fun i => (i.zero,i.size)) = some (some (.agg (row .u64 8 fun _ => 0)),8) := by kernel_rfl
theorem info_r64 : (Tryz.prog.info? 175).map (fun i => (i.zero,i.size)) = some (some (.agg (row .u64 64 fun _ => 0)),64) := by kernel_rfl
theorem rzero8 (W : World) : Arr (W.alloc (.cells #[.int .u64 0,.int .u64 0,.int .u64 0,.int .u64 0,.int .u64 0,.int .u64 0,.int .u64 0,.int .u64 0] 162)) W.heap.size .u64 8 162 (fun _ => 0) := by
 rw [show (#[.int .u64 0,.int .u64 0,.int .u64 0,.int .u64 0,.int .u64 0,.int .u64 0,.int .u64 0,.int .u64 0] : Array Value) = row .u64 8 (fun _ => 0) from rfl]
 exact Arr.new
set_option maxRecDepth 100000 in
set_option maxHeartbeats 1000000 in
theorem table_any (w : World) :
  Calls Tryz.prog 171 #[] w fun e w' => e = .returned (.agg (row .u64 64 kAt)) ∧ Below w.heap.size w w' := by
 obtain ⟨hz,hn⟩ := zero_of_info info_r64
 have HN := Lib.hid hn
 clear hn
 have hbt := build_table
 go_enter Tryz.func171,Tryz.ntmps171
 go_wp2_with (with_reducible refine wpList_store_arr rfl 175 (.tmp 0) (.tmp 1) rfl w.heap.size .u64 64 kAt rfl rfl 175 _ Arr.new HN ?_)
 exact bodyPost_ret (results_arr rfl _ _ w.heap.size 175 .u64 64 kAt _ rfl (Arr.new.setRow _) Tryz.underlying175 rfl HN) rfl ⟨rfl,below_setRow (below1 _ _) (Nat.le_refl _) _⟩
set_option maxHeartbeats 1000000 in
theorem first_any (w : World) :
  Calls Tryz.prog 155 #[] w fun e w' => e = .returned (.agg (row .u64 8 H0.get)) ∧ Below w.heap.size w w' := by
 have HN := Lib.hid (zero_of_info info_r8).2
 have hbt := build_first
 go_enter Tryz.func155,Tryz.ntmps155
 go_wp2_with (with_reducible refine wpList_store_arr rfl 162 (.tmp 0) (.tmp 1) rfl w.heap.size .u64 8 H0.get rfl ?hy 162 _ (rzero8 _) HN ?_)
 case hy => rfl
 exact bodyPost_ret (results_arr rfl _ _ w.heap.size 162 .u64 8 H0.get _ rfl ((rzero8 _).setRow _) Tryz.underlying162 rfl HN) rfl ⟨rfl,below_setRow (below1 _ _) (Nat.le_refl _) _⟩
end Go.Proofs.YtpoinibckmbfcaaGreatDoor.RefT
