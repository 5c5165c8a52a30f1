import Derived.Test.YtemdlpcljjdfjaaDoorRows
import Derived.Test.YtemdlpcljjdfjaaDoorHrow
import Derived.WalkSpells
import Derived.WalkLawsBesides
import Derived.Laws.Externs
import Derived.Lib.Mul64
import Derived.Laws.Bits64b
/- Words as plain numbers: Add64, Sub64, Mul64, MulAdd. -/
namespace Go.Proofs.YtemdlpcljjdfjaaDoor
open Go.RowKit

/-- A natural number as a number. No abbreviation. -/
def V (n : Nat) : Int := (n : Int)
abbrev nv (n : Nat) : Value := .int .u64 (V n)
theorem V_zero : V 0 = 0 := rfl

def sub64E : Array Value → Sem Value := fun args => do
  let (x, y, b) ← Extern.MathBitsCarry.three "Sub64" args
  pure (Extern.MathBitsCarry.pair ((x + Extern.MathBitsCarry.m64 - y - b) % Extern.MathBitsCarry.m64) (if x < y + b then 1 else 0))
theorem run_sub64E {P : Program} (x y b : Nat) (hb : b ≤ 1) (w : World) :
    (sub64E #[.int .u64 x, .int .u64 y, .int .u64 b]).run P w =
      .ok (.tuple #[.int .u64 (((x + 18446744073709551616 - y - b) % 18446744073709551616 : Nat) : Int), .int .u64 ((if x < y + b then 1 else 0 : Nat) : Int)]) w := by
  have : b = 0 ∨ b = 1 := by omega
  rcases this with rfl | rfl <;> rfl

def sumW (x y c : Nat) : Nat := (x + y + c) % 18446744073709551616
def carW (x y c : Nat) : Nat := (x + y + c) / 18446744073709551616
def difW (x y b : Nat) : Nat := (x + 18446744073709551616 - y - b) % 18446744073709551616
def borW (x y b : Nat) : Nat := if x < y + b then 1 else 0

theorem add64_run (x y c : Nat) (hc : c ≤ 1) (w : World) :
    (callFunc 72 #[nv x, nv y, nv c]).run Tryd.prog w = .ok (.value (.tuple #[nv (sumW x y c), nv (carW x y c)])) w := by
  rw [run_callFunc_extern Tryd.func72 (by kernel_rfl) (by kernel_rfl) (by kernel_rfl) (e := add64Entry) (by kernel_rfl), run_add64 (V x) (V y) (V c) (by unfold V; omega) (by unfold V; omega) (by unfold V; omega) (by unfold V; omega)]
  simp only [Result.andThen]
  congr 5 <;> (unfold V) <;> simp only [sumW, carW] <;> omega
theorem add64_run0 (x y : Nat) (w : World) :
    (callFunc 72 #[nv x, nv y, .int .u64 0]).run Tryd.prog w = .ok (.value (.tuple #[nv (sumW x y 0), nv (carW x y 0)])) w := add64_run x y 0 (by decide) w
theorem sub64_run (x y b : Nat) (hb : b ≤ 1) (w : World) :
    (callFunc 86 #[nv x, nv y, nv b]).run Tryd.prog w = .ok (.value (.tuple #[nv (difW x y b), nv (borW x y b)])) w := by
  rw [run_callFunc_extern Tryd.func86 (by kernel_rfl) (by kernel_rfl) (by kernel_rfl) (e := sub64E) (by kernel_rfl)]
  have := run_sub64E (P := Tryd.prog) x y b hb w
  simp only [nv, V] at *
  rw [this]
  rfl
theorem sub64_run0 (x y : Nat) (w : World) :
    (callFunc 86 #[nv x, nv y, .int .u64 0]).run Tryd.prog w = .ok (.value (.tuple #[nv (difW x y 0), nv (borW x y 0)])) w := sub64_run x y 0 (by decide) w

namespace M64
theorem maskN (a : Nat) (ha : a < 18446744073709551616) : bits .and .u64 (a : Int) 4294967295 = ((a % 4294967296 : Nat) : Int) := by
  have h := bits_and_u64_nat a 4294967295 ha (by omega)
  have e : a &&& 4294967295 = a % 4294967296 := Nat.and_two_pow_sub_one_eq_mod a 32
  rw [e] at h
  exact h
theorem divN (a : Nat) : (a : Int) / 4294967296 = ((a / 4294967296 : Nat) : Int) := by omega
theorem mulN (a b : Nat) : (a : Int) * (b : Int) = ((a * b : Nat) : Int) := (Int.natCast_mul a b).symm
theorem addN (a b : Nat) : (a : Int) + (b : Int) = ((a + b : Nat) : Int) := (Int.natCast_add a b).symm
theorem wrapN (a : Nat) (ha : a < 18446744073709551616) : IntKind.u64.wrap (a : Int) = (a : Int) := by rw [IntKind.wrap_u64]; omega
theorem wrapM (a : Nat) : IntKind.u64.wrap (a : Int) = ((a % 18446744073709551616 : Nat) : Int) := by rw [IntKind.wrap_u64]; omega
end M64
set_option maxHeartbeats 1000000 in
theorem mul64_any (x y : Nat) (hx : x < 18446744073709551616) (hy : y < 18446744073709551616) (w : World) :
    Calls Tryd.prog 89 #[.int .u64 x, .int .u64 y] w fun e w' => e = .returned (.tuple #[nv (x * y / 18446744073709551616), nv (x * y % 18446744073709551616)]) ∧ w' = w := by
  obtain ⟨bd, bt, bw, hhi⟩ := Lib.mul64_hi x y hx hy
  have ba := Lib.half_mul_le (a := x / 4294967296) (b := y / 4294967296) (by omega) (by omega)
  have bb := Lib.half_mul_le (a := x / 4294967296) (b := y % 4294967296) (by omega) (by omega)
  have bc := Lib.half_mul_le (a := x % 4294967296) (b := y / 4294967296) (by omega) (by omega)
  have ba' : x / 4294967296 * (y / 4294967296) < 18446744073709551616 := by omega
  have bb' : x / 4294967296 * (y % 4294967296) < 18446744073709551616 := by omega
  have bc' : x % 4294967296 * (y / 4294967296) < 18446744073709551616 := by omega
  have bh1 : x / 4294967296 * (y / 4294967296) + (x / 4294967296 * (y % 4294967296) + x % 4294967296 * (y % 4294967296) / 4294967296) / 4294967296 < 18446744073709551616 := by omega
  have bh : x / 4294967296 * (y / 4294967296) + (x / 4294967296 * (y % 4294967296) + x % 4294967296 * (y % 4294967296) / 4294967296) / 4294967296 + ((x / 4294967296 * (y % 4294967296) + x % 4294967296 * (y % 4294967296) / 4294967296) % 4294967296 + x % 4294967296 * (y / 4294967296)) / 4294967296 < 18446744073709551616 := by omega
  go_enter Tryd.func89, Tryd.ntmps89
  go_wp2
  simp only [M64.maskN x hx, M64.maskN y hy, M64.divN, M64.mulN, M64.addN, M64.wrapN _ bd, M64.wrapN _ bb', M64.wrapN _ bt, M64.maskN _ bt, M64.wrapN _ bc', M64.wrapN _ bw, M64.wrapN _ ba', M64.wrapN _ bh1, M64.wrapN _ bh, M64.wrapM (x * y)]
  rw [hhi]
  go_ret2
  exact ⟨rfl, rfl⟩
end Go.Proofs.YtemdlpcljjdfjaaDoor
