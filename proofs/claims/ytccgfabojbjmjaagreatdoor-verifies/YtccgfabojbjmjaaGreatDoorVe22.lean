import Derived.Test.YtccgfabojbjmjaaGreatDoorVe18
import Derived.Deep.QuietTactic
import Derived.BigQuiet
namespace Go.Proofs.YtccgfabojbjmjaaGreatDoor
open Go.RowKit
section
attribute [local go_sem] U_and U_or U_xor U_not U_add U_add_one
set_option maxRecDepth 100000 in
set_option maxHeartbeats 400000 in
theorem refRight_any (x : BitVec 64) (k : Int) (n : Nat) (hk : k = n) (h0 : 0 < n) (h1 : n < 64) (w : World) :
  Calls Tryz.prog 105 #[.int .u64 (U x), .int .i64 k] w fun e w' => e = .returned (.int .u64 (U (x.rotateRight n))) ∧ ∃ q, w' = w.drewN q := by
 subst hk
 have b0 : (0 : Int) ≤ (n : Int) := by omega
 have b1 : (n : Int) < 64 := by omega
 have b2 : (0 : Int) ≤ 64 - (n : Int) := by omega
 go_enter Tryz.func105, Tryz.ntmps105
 have HF : Hid (bits BinOp.or IntKind.u64 (U x / 2 ^ n) (IntKind.u64.wrap (U x * 2 ^ (64 - n))) = U (x.rotateRight n)) := by
  show _ = _
  rw [U_shl, U_shr, U_or, BitVec.or_comm, rot_eq x n h1]
 go_wp2
 go_quiet (fail)
 go_wp2
 go_ret
 exact ⟨congrArg (fun v => Ending.returned (.int .u64 v)) HF.out, nq, rfl⟩
end
theorem shl_or_byte (x : BitVec 64) (c : UInt8) : x <<< 8 + BitVec.ofNat 64 c.toNat = x <<< 8 ||| BitVec.ofNat 64 c.toNat := by
 apply BitVec.add_eq_or_of_and_eq_zero
 apply BitVec.eq_of_getLsbD_eq
 intro i hi
 rw [BitVec.getLsbD_and, BitVec.getLsbD_shiftLeft, BitVec.getLsbD_ofNat]
 by_cases h8 : i < 8
 · simp [h8]
 ·
  have hc : c.toNat < 2 ^ i := Nat.lt_of_lt_of_le c.toNat_lt (Nat.pow_le_pow_right (by omega) (by omega))
  rw [Nat.testBit_lt_two_pow hc]; simp
theorem mul256 (x : BitVec 64) (c : UInt8) : IntKind.u64.wrap (IntKind.u64.wrap (256 * U x) + IntKind.u64.wrap (C8 c)) = U (x <<< 8 ||| BitVec.ofNat 64 c.toNat) := by
 rw [Int.mul_comm 256 (U x), U_shl8, wrap_C8, U_add, shl_or_byte]
section
attribute [local go_sem] U_and U_or U_xor U_not U_add U_add_one
set_option maxRecDepth 100000 in
set_option maxHeartbeats 400000 in
theorem refWord_any (b off cap : Nat) (f : Nat → UInt8) (w : World)
  (hc : ∀ i, i < 8 → w.cell? ⟨b, off + i, none⟩ = some (.int .u8 (C8 (f i)))) :
  Calls Tryz.prog 104 #[.slice (some ⟨b, off, none⟩) 8 cap] w fun e w' => e = .returned (.int .u64 (U (be f 8))) ∧ w' = w := by
 go_enter Tryz.func104, Tryz.ntmps104
 go_wp2
 go_loop [3, 4] (fun v i => ∃ k : Nat, k ≤ 8 ∧ i = .int .i64 k ∧ v = .int .u64 (U (be f k))) (fun _ i => 8 - (intOf i).toNat)
 case atStart => exact ⟨0, Nat.zero_le _, rfl, rfl⟩
 case round =>
  obtain ⟨k, hk, rfl, rfl⟩ := hrel
  by_cases hlt : k < 8
  ·
   have hcell := hc k hlt
   clear hc
   have HE : Hid (IntKind.u64.wrap (IntKind.u64.wrap (256 * U (be f k)) + IntKind.u64.wrap (C8 (f k))) = U (be f (k + 1))) := mul256 _ _
   go_wp2
   go_round
   case rel => exact ⟨k + 1, by omega, by go_num, congrArg (Value.int .u64) HE.out⟩
   case measure => simp [intOf]; omega
  ·
   clear hc
   obtain rfl : k = 8 := by omega
   go_wp2
   go_ret
   exact ⟨rfl, rfl⟩
set_option maxRecDepth 100000 in
set_option maxHeartbeats 4000000 in
theorem refRounds_any (w : World) :
  Calls Tryz.prog 102 #[] w fun e w' => ∃ g, e = .returned (.slice (some ⟨g, 0, none⟩) 80 80) ∧ w.heap.size ≤ g ∧ w'.heap[g]? = some (.cells (kws.map uv).toArray 59 (0, 0)) ∧ Below w.heap.size w w' := by
 go_enter Tryz.func102, Tryz.ntmps102
 go_wp2_with fail
 go_ret
 refine ⟨w.heap.size, rfl, Nat.le_refl _, (heap_alloc_new w _).trans ?_, (Below.refl _ _).alloc (Nat.le_refl _) _⟩
 kernel_rfl
end
end Go.Proofs.YtccgfabojbjmjaaGreatDoor
