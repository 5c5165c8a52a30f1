import Derived.Test.YtccgfabojbjmjaaGreatDoorPx09
import Derived.Deep.CutRange
namespace Go.Proofs.YtccgfabojbjmjaaGreatDoor
open Go.RowKit
theorem and26 (n : Int) : bits .and .i64 n 67108863 = n % 67108864 := by
 have h : (BitVec.ofInt 64 67108863).toNat = 2 ^ 26 - 1 := by decide
 have key : (BitVec.ofInt 64 n &&& BitVec.ofInt 64 67108863).toNat = (n % ((2 ^ 64 : Nat) : Int)).toNat % 2 ^ 26 := by
  rw [BitVec.toNat_and, BitVec.toNat_ofInt, h, Nat.and_two_pow_sub_one_eq_mod]
 show IntKind.i64.wrap ((BitVec.ofInt 64 n &&& BitVec.ofInt 64 67108863).toNat : Nat) = n % 67108864
 rw [key, IntKind.wrap_i64]
 omega
theorem and21 (n : Int) : bits .and .i64 n 2097151 = n % 2097152 := by
 have h : (BitVec.ofInt 64 2097151).toNat = 2 ^ 21 - 1 := by decide
 have key : (BitVec.ofInt 64 n &&& BitVec.ofInt 64 2097151).toNat = (n % ((2 ^ 64 : Nat) : Int)).toNat % 2 ^ 21 := by
  rw [BitVec.toNat_and, BitVec.toNat_ofInt, h, Nat.and_two_pow_sub_one_eq_mod]
 show IntKind.i64.wrap ((BitVec.ofInt 64 n &&& BitVec.ofInt 64 2097151).toNat : Nat) = n % 2097152
 rw [key, IntKind.wrap_i64]
 omega
end Go.Proofs.YtccgfabojbjmjaaGreatDoor
