import Derived.Test.YtcnbhpghcjcejaaDoorRows
import Derived.Test.YtcnbhpghcjcejaaDoorWords
import Derived.WalkSpells
import Derived.WalkLawsBesides
/- THE LEAVES of package digest: choose, majority, the sigmas, turns. -/
namespace Go.Proofs.YtcnbhpghcjcejaaDoor
open Go.RowKit

def chooseW (x y z : BitVec 64) : BitVec 64 := x &&& y ^^^ ~~~x &&& z
def majorityW (x y z : BitVec 64) : BitVec 64 := x &&& y ^^^ x &&& z ^^^ y &&& z
def bigSigma0W (x : BitVec 64) : BitVec 64 := x.rotateRight 28 ^^^ x.rotateRight 34 ^^^ x.rotateRight 39
def bigSigma1W (x : BitVec 64) : BitVec 64 := x.rotateRight 14 ^^^ x.rotateRight 18 ^^^ x.rotateRight 41
def smallSigma0W (x : BitVec 64) : BitVec 64 := x.rotateRight 1 ^^^ x.rotateRight 8 ^^^ x >>> 7
def smallSigma1W (x : BitVec 64) : BitVec 64 := x.rotateRight 19 ^^^ x.rotateRight 61 ^^^ x >>> 6

section
attribute [local go_sem] U_and U_or U_xor U_not U_add
set_option maxHeartbeats 400000 in
theorem choose_any (x y z : BitVec 64) (w : World) :
    Calls Tryd.prog 27 #[.int .u64 (U x), .int .u64 (U y), .int .u64 (U z)] w fun e w' => e = .returned (.int .u64 (U (chooseW x y z))) ∧ w' = w := by
  go_enter Tryd.func27, Tryd.ntmps27
  go_wp2
  go_ret
  exact ⟨rfl, rfl⟩
set_option maxHeartbeats 400000 in
theorem majority_any (x y z : BitVec 64) (w : World) :
    Calls Tryd.prog 29 #[.int .u64 (U x), .int .u64 (U y), .int .u64 (U z)] w fun e w' => e = .returned (.int .u64 (U (majorityW x y z))) ∧ w' = w := by
  go_enter Tryd.func29, Tryd.ntmps29
  go_wp2
  go_ret
  exact ⟨rfl, rfl⟩
theorem and_neg (n : Nat) (h0 : 0 < n) (h1 : n < 64) : bits .and .u64 (IntKind.u64.wrap (-(n : Int))) 63 = ((64 - n : Nat) : Int) := by
  have e : ∀ k : Fin 64, 0 < k.val → bits .and .u64 (IntKind.u64.wrap (-(k.val : Int))) 63 = ((64 - k.val : Nat) : Int) := by decide
  exact e ⟨n, h1⟩ h0
theorem rot_eq (x : BitVec 64) (n : Nat) (h1 : n < 64) : x <<< (64 - n) ||| x >>> n = x.rotateRight n := by
  rw [BitVec.rotateRight_def, Nat.mod_eq_of_lt h1, BitVec.or_comm]
set_option maxHeartbeats 400000 in
theorem rot_any (x : BitVec 64) (n : Nat) (h0 : 0 < n) (h1 : n < 64) (w : World) :
    Calls Tryd.prog 34 #[.int .u64 (U x), .int .i64 (-(n : Int))] w fun e w' => e = .returned (.int .u64 (U (x.rotateRight n))) ∧ w' = w := by
  have e := and_neg n h0 h1
  have hm : ((64 - n : Nat) : Int) = 64 - n := by omega
  rw [hm] at e
  have HF : Hid (bits BinOp.or IntKind.u64 (IntKind.u64.wrap (U x * 2 ^ (64 - n))) (U x / 2 ^ (64 - (64 - n))) = U (x.rotateRight n)) := by
    have h64 : 64 - (64 - n) = n := by omega
    show _ = _
    rw [h64, U_shl, U_shr, U_or, rot_eq x n h1]
  go_enter Tryd.func34, Tryd.ntmps34
  go_wp2
  go_ret
  exact ⟨congrArg (fun v => Ending.returned (.int .u64 v)) HF.out, rfl⟩
set_option maxHeartbeats 400000 in
theorem right_any (x : BitVec 64) (k : Int) (n : Nat) (hk : k = n) (h0 : 0 < n) (h1 : n < 64) (w : World) :
    Calls Tryd.prog 33 #[.int .u64 (U x), .int .i64 k] w fun e w' => e = .returned (.int .u64 (U (x.rotateRight n))) ∧ w' = w := by
  subst hk
  go_enter Tryd.func33, Tryd.ntmps33
  go_wp2_with (go_at_call 34; refine (rot_any x n h0 h1 _).mono ?_; rintro e w' ⟨rfl, rfl⟩)
  go_ret
  exact ⟨rfl, rfl⟩
set_option maxHeartbeats 400000 in
theorem bigSigma0_any (x : BitVec 64) (w : World) :
    Calls Tryd.prog 28 #[.int .u64 (U x)] w fun e w' => e = .returned (.int .u64 (U (bigSigma0W x))) ∧ w' = w := by
  go_enter Tryd.func28, Tryd.ntmps28
  go_wp2_with fail
  refine (right_any x 28 28 rfl (by omega) (by omega) _).mono ?_
  rintro e w' ⟨rfl, rfl⟩
  go_wp2_with fail
  refine (right_any x 34 34 rfl (by omega) (by omega) _).mono ?_
  rintro e w' ⟨rfl, rfl⟩
  go_wp2_with fail
  refine (right_any x 39 39 rfl (by omega) (by omega) _).mono ?_
  rintro e w' ⟨rfl, rfl⟩
  go_wp2
  go_ret
  exact ⟨rfl, rfl⟩
set_option maxHeartbeats 400000 in
theorem bigSigma1_any (x : BitVec 64) (w : World) :
    Calls Tryd.prog 26 #[.int .u64 (U x)] w fun e w' => e = .returned (.int .u64 (U (bigSigma1W x))) ∧ w' = w := by
  go_enter Tryd.func26, Tryd.ntmps26
  go_wp2_with fail
  refine (right_any x 14 14 rfl (by omega) (by omega) _).mono ?_
  rintro e w' ⟨rfl, rfl⟩
  go_wp2_with fail
  refine (right_any x 18 18 rfl (by omega) (by omega) _).mono ?_
  rintro e w' ⟨rfl, rfl⟩
  go_wp2_with fail
  refine (right_any x 41 41 rfl (by omega) (by omega) _).mono ?_
  rintro e w' ⟨rfl, rfl⟩
  go_wp2
  go_ret
  exact ⟨rfl, rfl⟩
theorem U_shr7 (a : BitVec 64) : U a / (128 : Int) = U (a >>> 7) := U_shr a 7
theorem U_shr6 (a : BitVec 64) : U a / (64 : Int) = U (a >>> 6) := U_shr a 6
theorem ret_u64 {a b : Int} (h : a = b) : Ending.returned (.int .u64 a) = .returned (.int .u64 b) := by rw [h]
set_option maxHeartbeats 400000 in
theorem smallSigma0_any (x : BitVec 64) (w : World) :
    Calls Tryd.prog 32 #[.int .u64 (U x)] w fun e w' => e = .returned (.int .u64 (U (smallSigma0W x))) ∧ w' = w := by
  go_enter Tryd.func32, Tryd.ntmps32
  go_wp2_with fail
  refine (right_any x 1 1 rfl (by omega) (by omega) _).mono ?_
  rintro e w' ⟨rfl, rfl⟩
  go_wp2_with fail
  refine (right_any x 8 8 rfl (by omega) (by omega) _).mono ?_
  rintro e w' ⟨rfl, rfl⟩
  go_wp2
  go_ret
  exact ⟨ret_u64 (by rw [U_shr7, U_xor]; rfl), rfl⟩
set_option maxHeartbeats 400000 in
theorem smallSigma1_any (x : BitVec 64) (w : World) :
    Calls Tryd.prog 31 #[.int .u64 (U x)] w fun e w' => e = .returned (.int .u64 (U (smallSigma1W x))) ∧ w' = w := by
  go_enter Tryd.func31, Tryd.ntmps31
  go_wp2_with fail
  refine (right_any x 19 19 rfl (by omega) (by omega) _).mono ?_
  rintro e w' ⟨rfl, rfl⟩
  go_wp2_with fail
  refine (right_any x 61 61 rfl (by omega) (by omega) _).mono ?_
  rintro e w' ⟨rfl, rfl⟩
  go_wp2
  go_ret
  exact ⟨ret_u64 (by rw [U_shr6, U_xor]; rfl), rfl⟩
end
end Go.Proofs.YtcnbhpghcjcejaaDoor
