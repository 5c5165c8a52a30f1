import Derived.Test.YtemdlpcljjdfjaaDoorRefBytes
import Derived.Test.YtemdlpcljjdfjaaDoorBytes4
/- latchref.Reduce. -/
namespace Go.Proofs.YtemdlpcljjdfjaaDoor
open Go.RowKit
theorem dB_getR (B : Int) (hB : 0 < B) (K k : Nat) (n : Int) (h : k < K) : (dB B K n).getD k 0 = n / B ^ k % B := by
  induction k generalizing K n with
  | zero => cases K with
    | zero => omega
    | succ K => simp [dB]
  | succ k ih => cases K with
    | zero => omega
    | succ K =>
      have := ih K (n / B) (by omega)
      simp only [dB, List.getD_cons_succ, this]
      rw [Int.pow_succ, Int.mul_comm, Int.ediv_ediv_of_nonneg (by omega)]
theorem leB_two (n k : Nat) : leB n (2 * (k + 1)) = leB n (2 * k) ++ [byteLE n (2 * k), byteLE n (2 * k + 1)] := by
  unfold leB
  rw [show 2 * (k + 1) = 2 * k + 1 + 1 by omega, List.range_succ, List.range_succ]
  simp
theorem pow2k (k : Nat) : 65536 ^ k = 256 ^ (2 * k) := by rw [Nat.pow_mul]
theorem twoB_leB (n K k : Nat) (h : k ≤ K) : twoB (dB 65536 K (n : Int)) k = leB n (2 * k) := by
  induction k with
  | zero => rfl
  | succ k ih =>
    rw [twoB_step _ _ (by rw [dB_length]; omega), ih (by omega), leB_two, dB_getR 65536 (by decide) K k _ (by omega)]
    have e0 : ((n : Int) / 65536 ^ k) = ((n / 256 ^ (2 * k) : Nat) : Int) := by
      rw [← pow2k, Int.natCast_ediv, Int.natCast_pow]; rfl
    have e1 : n / 256 ^ (2 * k + 1) = n / 256 ^ (2 * k) / 256 := by rw [Nat.pow_succ, Nat.div_div_eq_div_mul]
    rw [e0]
    unfold byteLE
    rw [e1]
    generalize n / 256 ^ (2 * k) = x
    congr 2
    · apply UInt8.toNat_inj.1
      rw [UInt8.toNat_ofNat', UInt8.toNat_ofNat']; omega
    · congr 1
      apply UInt8.toNat_inj.1
      rw [UInt8.toNat_ofNat', UInt8.toNat_ofNat']; omega
section
set_option maxRecDepth 100000 in
set_option maxHeartbeats 400000 in
theorem refReduce_any (s : ByteArray) (hs : s.size ≤ 140737488351232) (w : World) :
    Calls Tryd.prog 22 #[.string s] w fun e w' => (s.size = 64 → e = .returned (.tuple #[.string (strOf (leB (valLE (bytesOf s) % 7237005577332262213973186563042994240857116359379907606001950938285454250989) 32)), .int .i64 0])) ∧ (s.size ≠ 64 → e = .returned (.tuple #[.string ⟨#[]⟩, .int .i64 1])) ∧ Below w.heap.size w w' := by
  have hz := zeroS
  by_cases h64 : s.size = 64
  · have hbne : ((s.size : Int) != 64) = false := by rw [h64]; rfl
    have H64 := hide h64
    have HS := hide hs
    clear h64 hs
    go_enter Tryd.func22, Tryd.ntmps22
    go_wp2_with fail
    refine (reduced_any s HS.out _).mono ?_
    rintro e W1 ⟨rfl, hB1⟩
    have HB1 := hide hB1
    obtain ⟨D, HD⟩ : ∃ D, Hid (D = redAt s 0) := ⟨_, rfl⟩
    rw [← HD.out]
    have HDl : Hid (D.length = 17) := by rw [HD.out]; exact dB_length _ _ _
    have HDb : Hid (∀ x ∈ D, 0 ≤ x ∧ x < 65536) := by rw [HD.out]; exact dB_lt _ (by decide) _ _
    have HSz := hide (ivS_size HDl.out)
    have HSo := hide (ivS_old HDl.out)
    have HSa := hide (ivS_all D)
    clear hB1
    go_wp2_with (first
      | (refine wpList_store_row (by rfl) 84 (.tmp 4) (.tmp 9) (by rfl) W1.heap.size (D.map iv).toArray (by rfl) (by rfl) 84 _ (heap_alloc_new _ _) HSz.out HSo.out HSa.out ?_)
      | (refine wpList_load_row (by rfl) 84 (.tmp 4) (by rfl) W1.heap.size (by rfl) 84 (D.map iv).toArray (0, 0) _ (setRow_heap _ _ _ _ _ _ (heap_alloc_new _ _)) underS' rfl HSz.out ?_))
    refine (sbytes_any D HDl.out HDb.out _).mono ?_
    rintro e W2 ⟨rfl, hB2⟩
    have HB2 : Hid (Below w.heap.size w W2) := (below_setRow (HB1.out.alloc HB1.out.size _) HB1.out.size _).trans (hB2.mono (by have := HB1.out.size; simp; omega))
    clear hB2
    obtain ⟨T, HT⟩ : ∃ T, Hid (T = strOf (twoB D 16)) := ⟨_, rfl⟩
    rw [← HT.out]
    go_wp2_with fail
    go_returns
    refine ⟨fun _ => ?_, fun h => absurd H64.out h, HB2.out⟩
    have e : twoB D 16 = leB (valLE (bytesOf s) % 7237005577332262213973186563042994240857116359379907606001950938285454250989) 32 := by
      rw [HD.out]; unfold redAt
      rw [Nat.pow_zero, Nat.div_one]
      exact twoB_leB _ 17 16 (by decide)
    rw [← e, ← HT.out]
    rfl
  · have hbne : ((s.size : Int) != 64) = true := by rw [bne_iff_ne]; omega
    have H64 := hide h64
    clear h64
    go_enter Tryd.func22, Tryd.ntmps22
    go_wp2_with fail
    go_returns
    exact ⟨fun h => absurd h H64.out, fun _ => rfl, Below.refl _ _⟩
end
end Go.Proofs.YtemdlpcljjdfjaaDoor
