import Derived.WalkKit
/- Words of 64 bits as the walk carries them: 'U x' is a word's number; the operators of the machine on such numbers are BitVec's. Nothing of the dump. -/
namespace Go.Proofs.YtcnbhpghcjcejaaDoor
open Go.RowKit

/-- A word's number. No abbreviation: simp is to leave it standing. -/
def U (x : BitVec 64) : Int := (x.toNat : Int)
/-- A byte's number. -/
def C8 (c : UInt8) : Int := (c.toNat : Int)

theorem U_nonneg (x : BitVec 64) : 0 ≤ U x := Int.natCast_nonneg _
theorem U_lt (x : BitVec 64) : U x < 18446744073709551616 := by
  have := x.isLt; unfold U; omega
theorem C8_nonneg (c : UInt8) : 0 ≤ C8 c := Int.natCast_nonneg _
theorem C8_lt (c : UInt8) : C8 c < 256 := by
  have := c.toNat_lt; unfold C8; omega

theorem U_inj {x y : BitVec 64} (h : U x = U y) : x = y := by
  apply BitVec.eq_of_toNat_eq; unfold U at h; omega

theorem U_and (a b : BitVec 64) : bits .and .u64 (U a) (U b) = U (a &&& b) := by
  unfold U; rw [bits_and_u64_nat _ _ (by have := a.isLt; omega) (by have := b.isLt; omega), BitVec.toNat_and]
theorem U_or (a b : BitVec 64) : bits .or .u64 (U a) (U b) = U (a ||| b) := by
  unfold U; rw [bits_or_u64_nat _ _ (by have := a.isLt; omega) (by have := b.isLt; omega), BitVec.toNat_or]
theorem U_xor (a b : BitVec 64) : bits .xor .u64 (U a) (U b) = U (a ^^^ b) := by
  unfold U; rw [bits_xor_u64_nat _ _ (by have := a.isLt; omega) (by have := b.isLt; omega), BitVec.toNat_xor]
theorem U_not (a : BitVec 64) : bits .xor .u64 IntKind.u64.max (U a) = U (~~~a) := by
  have e : IntKind.u64.max = U (BitVec.allOnes 64) := by decide
  rw [e, U_xor, BitVec.allOnes_xor]
theorem U_add (a b : BitVec 64) : IntKind.u64.wrap (U a + U b) = U (a + b) := by
  unfold U; rw [IntKind.wrap_u64, BitVec.toNat_add]; omega
theorem U_add_one (a : BitVec 64) : IntKind.u64.wrap (U a + 1) = U (a + 1) := U_add a 1

theorem U_shr (a : BitVec 64) (n : Nat) : U a / 2 ^ n = U (a >>> n) := by
  unfold U; rw [BitVec.toNat_ushiftRight, Nat.shiftRight_eq_div_pow]; push_cast; rfl
theorem U_shl (a : BitVec 64) (n : Nat) : IntKind.u64.wrap (U a * 2 ^ n) = U (a <<< n) := by
  unfold U; rw [IntKind.wrap_u64, BitVec.toNat_shiftLeft, Nat.shiftLeft_eq, Int.natCast_emod, Int.natCast_mul, Int.natCast_pow]; rfl

end Go.Proofs.YtcnbhpghcjcejaaDoor
