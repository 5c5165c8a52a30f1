import Derived.Test.YtccgfabojbjmjaaGreatDoorSd10
import Derived.Test.YtccgfabojbjmjaaGreatDoorRows
import Derived.WalkSpells
import Derived.WalkLawsBesides
import Derived.Handy
import Derived.Test.YtccgfabojbjmjaaGreatDoorSd08
import Derived.Test.YtccgfabojbjmjaaGreatDoorSd12
namespace Go.Proofs.YtccgfabojbjmjaaGreatDoor
open Go.RowKit
theorem and1 (x : Nat) (h : x < 18446744073709551616) : bits .and .u64 (V x) 1 = V (x % 2) := by
 have e := bits_and_u64_nat x 1 h (by omega)
 have e2 : x &&& 1 = x % 2 := Nat.and_two_pow_sub_one_eq_mod x 1
 rw [e2] at e
 exact e
theorem wd_lt (n q : Nat) : wd n q < 18446744073709551616 := Nat.mod_lt _ (by decide)
theorem wd0_mod2 (n : Nat) : wd n 0 % 2 = n % 2 := by unfold wd; rw [Nat.pow_zero, Nat.div_one]; omega
set_option maxHeartbeats 400000 in
theorem feIsOdd (a : Nat) (w : World) :
  Calls Tryz.prog 95 #[fe a] w fun e w' => e = .returned (.bool (decide (a % 2 = 1))) ∧ Below w.heap.size w w' := by
 have h1 := and1 (wd a 0) (wd_lt a 0)
 have HB : Hid ((V (wd a 0 % 2) == 1) = decide (a % 2 = 1)) := by
  show _ = _
  rw [wd0_mod2]
  have : a % 2 = 0 ∨ a % 2 = 1 := by omega
  rcases this with h | h <;> rw [h] <;> rfl
 show Calls Tryz.prog 95 #[.agg #[nv (wd a 0), nv (wd a 1), nv (wd a 2), nv (wd a 3)]] w _
 go_enter Tryz.func95, Tryz.ntmps95
 go_wp2_with fail
 go_returns
 exact ⟨by rw [← HB.out]; rfl, by go_grown⟩
set_option maxRecDepth 100000 in
set_option maxHeartbeats 400000 in
theorem feBytes (a : Nat) (w : World) :
  Calls Tryz.prog 94 #[fe a] w fun e w' => e = .returned (.agg ((leB a 32).map cv).toArray) ∧ Below w.heap.size w w' := by
 have hz := zero32
 show Calls Tryz.prog 94 #[.agg #[nv (wd a 0), nv (wd a 1), nv (wd a 2), nv (wd a 3)]] w _
 go_enter Tryz.func94, Tryz.ntmps94
 go_wp2_with fail
 refine (bytes_wd a _).mono ?_
 rintro e W1 ⟨rfl, hB⟩
 have hz1 := hB.size
 simp only [World.size_alloc] at hB hz1
 obtain ⟨R, HR⟩ : ∃ R, Hid (R = (leB a 32).map cv) := ⟨_, rfl⟩
 rw [← HR.out]
 have hRl : R.length = 32 := by rw [HR.out, List.length_map, leB_length]
 have HSz : Hid ((Tryz.prog.info? 61).map (·.size) = some R.toArray.size) := by show _ = _; rw [size32]; simp [hRl]
 have HOo : Hid (z32.size = R.toArray.size) := by show _ = _; simp [hRl]; rfl
 have HA : Hid (R.toArray.all (·.oneCell') = true) := by rw [HR.out]; exact all_oneCell_toArray (bytes_cell _)
 have H1 : Hid (W1.heap[w.heap.size + 1]? = some (.cells z32 61 (0, 0))) := (hB.block _ (by omega)).trans (heap_alloc2_new _ _ _)
 have HB : Hid (Below w.heap.size w W1) := (((Below.refl _ w).alloc (Nat.le_refl _) _).alloc (by simp) _).trans (hB.mono (by omega))
 clear hB hRl hz
 go_wp2_with (first | (refine wpList_store_row (by rfl) 61 (.tmp 2) (.tmp 4) (by rfl) (w.heap.size + 1) R.toArray (by rfl) (by rfl) 61 _ H1.out HSz.out HOo.out HA.out ?_))
 refine bodyPost_ret (v := .agg R.toArray) (results_cell_row Tryz.results94 _ _ (w.heap.size + 1) 61 R.toArray (0, 0) _ (by rfl) (setRow_heap _ _ _ _ _ _ H1.out) under32 rfl HSz.out) rfl ⟨by rw [HR.out], below_setRow HB.out (by omega) _⟩
theorem valLE_lt (l : List UInt8) : valLE l < 256 ^ l.length := by
 induction l with
 | nil => simp [valLE]
 | cons c l ih =>
  have := c.toNat_lt
  simp only [valLE, List.length_cons, Nat.pow_succ]
  omega
theorem valLE_byte (l : List UInt8) (j : Nat) : valLE l / 256 ^ j % 256 = (l.getD j 0).toNat := by
 induction l generalizing j with
 | nil => simp [valLE]
 | cons c l ih =>
  have := c.toNat_lt
  cases j with
  | zero => simp [valLE]
  | succ j =>
   have e : (c.toNat + 256 * valLE l) / 256 = valLE l := by omega
   simp only [valLE, Nat.pow_succ, Nat.mul_comm (256 ^ j) 256, ← Nat.div_div_eq_div_mul, e]
   rw [ih j]; simp
theorem strAt (s : ByteArray) (i : Nat) (h : i < s.size) (w : World) : (Instr.index 9 (.string s) (.int .i64 i)).run Tryz.prog w = .ok (.int .u8 (C8 ((bytesOf s).getD i 0))) w := by
 rw [run_index_string w _ _ _ _ (show Tryz.prog.underlying 9 = some .string by kernel_rfl), dif_pos ⟨by omega, by omega⟩]
 have h' : i < s.data.size := h
 simp [bytesOf, C8, ByteArray.getElem_eq_getElem_data, Array.getElem?_eq_getElem h']
theorem pow_split8 (i : Nat) : (2 : Nat) ^ i = 256 ^ (i / 8) * 2 ^ (i % 8) := by
 rw [show (256 : Nat) = 2 ^ 8 by decide, ← Nat.pow_mul, ← Nat.pow_add]; congr 1; omega
theorem pow8_le (i : Nat) : 2 ^ (i % 8) ≤ 128 := by
 have : (2 : Nat) ^ (i % 8) ≤ 2 ^ 7 := Nat.pow_le_pow_right (by decide) (by omega)
 exact this
theorem leB_getD (n k j : Nat) (h : j < k) : (leB n k).getD j 0 = byteLE n j := by simp [leB, List.getD, h]
theorem byteLE_nat (n j : Nat) : (byteLE n j).toNat = n / 256 ^ j % 256 := by
 unfold byteLE
 rw [UInt8.toNat_ofNat']
theorem leB_low (m i : Nat) (hm : m < 2 ^ i) : m / 256 ^ (i / 8) < 2 ^ (i % 8) := by
 rw [Nat.div_lt_iff_lt_mul (Nat.pow_pos (by decide)), Nat.mul_comm, ← pow_split8]; exact hm
theorem leB_bit (m i : Nat) (hm : m < 2 ^ i) (_hi : i < 256) (c : UInt8) (hc : c.toNat = (byteLE m (i / 8)).toNat + 2 ^ (i % 8)) : (leB m 32).set (i / 8) c = leB (m + 2 ^ i) 32 := by
 have hlow := leB_low m i hm
 have hle := pow8_le i
 apply List.ext_getElem
 · simp [leB_length]
 ·
  intro j h1 h2
  rw [leB_length] at h2
  rw [List.getElem_set]
  have g : ∀ n : Nat, ∀ h : j < (leB n 32).length, (leB n 32)[j] = byteLE n j := by intro n h; simp [leB]
  rw [g (m + 2 ^ i)]
  apply UInt8.toNat_inj.1
  by_cases hj : i / 8 = j
  ·
   subst hj
   have e : (m + 2 ^ i) / 256 ^ (i / 8) = m / 256 ^ (i / 8) + 2 ^ (i % 8) := by
    rw [pow_split8 i, Nat.add_mul_div_left _ _ (Nat.pow_pos (by decide))]
   rw [if_pos rfl, hc, byteLE_nat, byteLE_nat, e]
   generalize m / 256 ^ (i / 8) = x at *
   generalize 2 ^ (i % 8) = y at *
   rw [Nat.mod_eq_of_lt (show x < 256 by omega), Nat.mod_eq_of_lt (show x + y < 256 by omega)]
  ·
   rw [if_neg hj, g m, byteLE_nat, byteLE_nat]
   rcases Nat.lt_or_ge j (i / 8) with k | k
   ·
    obtain ⟨d, hd⟩ : ∃ d, i / 8 = j + (d + 1) := ⟨i / 8 - j - 1, by omega⟩
    rw [pow_split8 i, hd, Nat.pow_add 256 j, Nat.mul_assoc, Nat.add_mul_div_left _ _ (Nat.pow_pos (by decide)), Nat.pow_succ, Nat.mul_comm (256 ^ d) 256, Nat.mul_assoc, Nat.add_mul_mod_self_left]
   ·
    have hlt : m + 2 ^ i < 256 ^ j := by
     have h3 : 2 ^ i + 2 ^ i ≤ 256 ^ j := by
      rw [← Nat.two_mul, ← Nat.pow_succ', show (256 : Nat) = 2 ^ 8 by decide, ← Nat.pow_mul]
      exact Nat.pow_le_pow_right (by decide) (by omega)
     omega
    rw [Nat.div_eq_of_lt hlt, Nat.div_eq_of_lt (by omega)]
end Go.Proofs.YtccgfabojbjmjaaGreatDoor
