import Derived.Test.YtemdlpcljjdfjaaDoorHrow
import Derived.Test.YtemdlpcljjdfjaaDoorRows
import Derived.Test.YtemdlpcljjdfjaaDoorTxt
import Derived.WalkSpells
import Derived.WalkLawsBesides
import Derived.Handy
import Derived.Test.YtemdlpcljjdfjaaDoorFMul
import Derived.Test.YtemdlpcljjdfjaaDoorBytes4
/- A text's bytes: its number, one byte of it. -/
namespace Go.Proofs.YtemdlpcljjdfjaaDoor
open Go.RowKit
theorem valLE_lt (l : List UInt8) : valLE l < 256 ^ l.length := by
  induction l with
  | nil => simp [valLE]
  | cons c l ih =>
    have := c.toNat_lt
    simp only [valLE, List.length_cons, Nat.pow_succ]
    omega
theorem valLE_byte (l : List UInt8) (j : Nat) : valLE l / 256 ^ j % 256 = (l.getD j 0).toNat := by
  induction l generalizing j with
  | nil => simp [valLE]
  | cons c l ih =>
    have := c.toNat_lt
    cases j with
    | zero => simp [valLE]
    | succ j =>
      have e : (c.toNat + 256 * valLE l) / 256 = valLE l := by omega
      simp only [valLE, Nat.pow_succ, Nat.mul_comm (256 ^ j) 256, ← Nat.div_div_eq_div_mul, e]
      rw [ih j]; simp
theorem strAt (s : ByteArray) (i : Nat) (h : i < s.size) (w : World) : (Instr.index 9 (.string s) (.int .i64 i)).run Tryd.prog w = .ok (.int .u8 (C8 ((bytesOf s).getD i 0))) w := by
  rw [run_index_string w _ _ _ _ (show Tryd.prog.underlying 9 = some .string by kernel_rfl), dif_pos ⟨by omega, by omega⟩]
  have h' : i < s.data.size := h
  simp [bytesOf, C8, ByteArray.getElem_eq_getElem_data, Array.getElem?_eq_getElem h']
end Go.Proofs.YtemdlpcljjdfjaaDoor
/- Bits of a number, as digits and as bytes. Plain mathematics. -/
namespace Go.Proofs.YtemdlpcljjdfjaaDoor
open Go.RowKit
theorem dB_get (B : Int) (hB : 0 < B) (k : Nat) (n : Int) (j : Nat) (h : j < k) : (dB B k n).getD j 0 = n / B ^ j % B := by
  induction k generalizing n j with
  | zero => omega
  | succ k ih =>
    cases j with
    | zero => simp [dB]
    | succ j =>
      simp only [dB, List.getD_cons_succ]
      rw [ih (n / B) j (by omega), Int.pow_succ, Int.mul_comm (B ^ j) B, Int.ediv_ediv_of_nonneg (by omega)]
theorem fd_get (n j : Nat) (h : j < 10) : (fd n).getD j 0 = ((n / 67108864 ^ j % 67108864 : Nat) : Int) := by
  unfold fd
  rw [dB_get _ (by decide) _ _ _ h, Int.natCast_emod, Int.natCast_ediv, Int.natCast_pow, show ((67108864 : Nat) : Int) = 67108864 from rfl]
theorem pow_split (i : Nat) : (2 : Nat) ^ i = 67108864 ^ (i / 26) * 2 ^ (i % 26) := by
  rw [show (67108864 : Nat) = 2 ^ 26 by decide, ← Nat.pow_mul, ← Nat.pow_add]; congr 1; omega
theorem pow_split8 (i : Nat) : (2 : Nat) ^ i = 256 ^ (i / 8) * 2 ^ (i % 8) := by
  rw [show (256 : Nat) = 2 ^ 8 by decide, ← Nat.pow_mul, ← Nat.pow_add]; congr 1; omega
theorem pow26_le (i : Nat) : 2 ^ (i % 26) ≤ 33554432 := by
  have : (2 : Nat) ^ (i % 26) ≤ 2 ^ 25 := Nat.pow_le_pow_right (by decide) (by omega)
  exact this
theorem pow8_le (i : Nat) : 2 ^ (i % 8) ≤ 128 := by
  have : (2 : Nat) ^ (i % 8) ≤ 2 ^ 7 := Nat.pow_le_pow_right (by decide) (by omega)
  exact this
/-- A digit gets a bit. -/
theorem fd_low (m i : Nat) (hm : m < 2 ^ i) (_hi : i < 255) : m / 67108864 ^ (i / 26) < 2 ^ (i % 26) := by
  rw [Nat.div_lt_iff_lt_mul (Nat.pow_pos (by decide)), Nat.mul_comm, ← pow_split]; exact hm
theorem fd_bit (m i : Nat) (hm : m < 2 ^ i) (hi : i < 255) : (fd m).set (i / 26) ((fd m).getD (i / 26) 0 + ((2 ^ (i % 26) : Nat) : Int)) = fd (m + 2 ^ i) := by
  have hj : i / 26 < 10 := by omega
  have hlow := fd_low m i hm hi
  have hle := pow26_le i
  have hd : (fd m).getD (i / 26) 0 = ((m / 67108864 ^ (i / 26) : Nat) : Int) := by
    rw [fd_get m _ hj, Nat.mod_eq_of_lt (by omega)]
  have hall : ∀ x ∈ (fd m).set (i / 26) ((fd m).getD (i / 26) 0 + ((2 ^ (i % 26) : Nat) : Int)), 0 ≤ x ∧ x < 67108864 := by
    intro x hx
    rcases List.mem_or_eq_of_mem_set hx with h | h
    · exact fd_lt m x h
    · rw [h, hd]
      generalize 2 ^ (i % 26) = p at *
      generalize m / 67108864 ^ (i / 26) = q at *
      omega
  have e := dB_vB 67108864 (by decide) _ hall
  rw [List.length_set, fd_length] at e
  rw [← e]
  unfold fd
  refine congrArg (dB 67108864 10) ?_
  have hv : vB 67108864 (dB 67108864 10 (m : Int)) = m := by
    have h255 : m < 57896044618658097711785492504343953926634992332820282019728792003956564819968 := Nat.lt_of_lt_of_le hm (Nat.pow_le_pow_right (by decide) (show i ≤ 255 by omega))
    rw [vB_dB _ (by decide), show (67108864 : Int) ^ 10 = 1852673427797059126777135760139006525652319754650249024631321344126610074238976 from by decide]
    omega
  have hlen : i / 26 < (dB 67108864 10 (m : Int)).length := by rw [dB_length]; exact hj
  rw [vB_set _ _ _ _ hlen, hv, int_cancel, Int.natCast_add]
  refine congrArg (fun z => (m : Int) + z) ?_
  rw [pow_split i, Int.natCast_mul, Int.natCast_pow 67108864, show ((67108864 : Nat) : Int) = 67108864 from rfl, Int.mul_comm]
theorem mod_bit (N i : Nat) : N % 2 ^ (i + 1) = N % 2 ^ i + if N / 2 ^ i % 2 = 1 then 2 ^ i else 0 := by
  rw [Nat.mod_pow_succ]
  have h := Nat.mod_lt (N / 2 ^ i) (show 0 < 2 by decide)
  split
  · next e => rw [e, Nat.mul_one]
  · next e => rw [show N / 2 ^ i % 2 = 0 by omega, Nat.mul_zero]
theorem part_bit (x b r : Nat) (hr : r < b) : x % 2 ^ b / 2 ^ r % 2 = x / 2 ^ r % 2 := by
  obtain ⟨d, rfl⟩ : ∃ d, b = r + (d + 1) := ⟨b - r - 1, by omega⟩
  rw [Nat.pow_add 2 r, Nat.mod_mul_right_div_self, Nat.pow_succ, Nat.mul_comm (2 ^ d) 2, Nat.mod_mul_right_mod]
/-- The bit of a byte. -/
theorem valLE_bit (l : List UInt8) (i : Nat) : valLE l / 2 ^ i % 2 = (l.getD (i / 8) 0).toNat / 2 ^ (i % 8) % 2 := by
  rw [← valLE_byte, pow_split8 i, ← Nat.div_div_eq_div_mul, show (256 : Nat) = 2 ^ 8 by decide, part_bit _ 8 (i % 8) (by omega)]
/-- The bit of a digit. -/
theorem fd_bitOf (n i : Nat) (hi : i < 255) : (fd n).getD (i / 26) 0 / ((2 ^ (i % 26) : Nat) : Int) % 2 = ((n / 2 ^ i % 2 : Nat) : Int) := by
  rw [fd_get n _ (by omega), pow_split i, ← Nat.div_div_eq_div_mul]
  have e := part_bit (n / 67108864 ^ (i / 26)) 26 (i % 26) (by omega)
  rw [show (2 : Nat) ^ 26 = 67108864 by decide] at e
  rw [← e]
  generalize n / 67108864 ^ (i / 26) % 67108864 = u
  generalize 2 ^ (i % 26) = p
  show ((u : Nat) : Int) / ((p : Nat) : Int) % ((2 : Nat) : Int) = _
  rw [← Int.natCast_ediv, ← Int.natCast_emod]
theorem leB_getD (n k j : Nat) (h : j < k) : (leB n k).getD j 0 = byteLE n j := by simp [leB, List.getD, h]
theorem byteLE_nat (n j : Nat) : (byteLE n j).toNat = n / 256 ^ j % 256 := by
  unfold byteLE
  rw [UInt8.toNat_ofNat']
/-- A byte gets a bit. -/
theorem leB_low (m i : Nat) (hm : m < 2 ^ i) : m / 256 ^ (i / 8) < 2 ^ (i % 8) := by
  rw [Nat.div_lt_iff_lt_mul (Nat.pow_pos (by decide)), Nat.mul_comm, ← pow_split8]; exact hm
theorem leB_bit (m i : Nat) (hm : m < 2 ^ i) (_hi : i < 256) (c : UInt8) (hc : c.toNat = (byteLE m (i / 8)).toNat + 2 ^ (i % 8)) : (leB m 32).set (i / 8) c = leB (m + 2 ^ i) 32 := by
  have hlow := leB_low m i hm
  have hle := pow8_le i
  apply List.ext_getElem
  · simp [leB_length]
  · intro j h1 h2
    rw [leB_length] at h2
    rw [List.getElem_set]
    have g : ∀ n : Nat, ∀ h : j < (leB n 32).length, (leB n 32)[j] = byteLE n j := by intro n h; simp [leB]
    rw [g (m + 2 ^ i)]
    apply UInt8.toNat_inj.1
    by_cases hj : i / 8 = j
    · subst hj
      have e : (m + 2 ^ i) / 256 ^ (i / 8) = m / 256 ^ (i / 8) + 2 ^ (i % 8) := by
        rw [pow_split8 i, Nat.add_mul_div_left _ _ (Nat.pow_pos (by decide))]
      rw [if_pos rfl, hc, byteLE_nat, byteLE_nat, e]
      generalize m / 256 ^ (i / 8) = x at *
      generalize 2 ^ (i % 8) = y at *
      rw [Nat.mod_eq_of_lt (show x < 256 by omega), Nat.mod_eq_of_lt (show x + y < 256 by omega)]
    · rw [if_neg hj, g m, byteLE_nat, byteLE_nat]
      rcases Nat.lt_or_ge j (i / 8) with k | k
      · obtain ⟨d, hd⟩ : ∃ d, i / 8 = j + (d + 1) := ⟨i / 8 - j - 1, by omega⟩
        rw [pow_split8 i, hd, Nat.pow_add 256 j, Nat.mul_assoc, Nat.add_mul_div_left _ _ (Nat.pow_pos (by decide)), Nat.pow_succ, Nat.mul_comm (256 ^ d) 256, Nat.mul_assoc, Nat.add_mul_mod_self_left]
      · have hlt : m + 2 ^ i < 256 ^ j := by
          have h3 : 2 ^ i + 2 ^ i ≤ 256 ^ j := by
            rw [← Nat.two_mul, ← Nat.pow_succ', show (256 : Nat) = 2 ^ 8 by decide, ← Nat.pow_mul]
            exact Nat.pow_le_pow_right (by decide) (by omega)
          omega
        rw [Nat.div_eq_of_lt hlt, Nat.div_eq_of_lt (by omega)]
end Go.Proofs.YtemdlpcljjdfjaaDoor
