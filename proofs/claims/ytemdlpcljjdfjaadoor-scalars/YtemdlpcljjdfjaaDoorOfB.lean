import Derived.Test.YtemdlpcljjdfjaaDoorFeEq
/- Package field: IsOdd, Bytes; package number: OfBytes; field.OfBytes. -/
namespace Go.Proofs.YtemdlpcljjdfjaaDoor
open Go.RowKit
theorem and1 (x : Nat) (h : x < 18446744073709551616) : bits .and .u64 (V x) 1 = V (x % 2) := by
  have e := bits_and_u64_nat x 1 h (by omega)
  have e2 : x &&& 1 = x % 2 := Nat.and_two_pow_sub_one_eq_mod x 1
  rw [e2] at e
  exact e
theorem wd_lt (n q : Nat) : wd n q < 18446744073709551616 := Nat.mod_lt _ (by decide)
theorem wd0_mod2 (n : Nat) : wd n 0 % 2 = n % 2 := by unfold wd; rw [Nat.pow_zero, Nat.div_one]; omega
set_option maxHeartbeats 400000 in
theorem feIsOdd (a : Nat) (w : World) :
    Calls Tryd.prog 49 #[fe a] w fun e w' => e = .returned (.bool (decide (a % 2 = 1))) ∧ Below w.heap.size w w' := by
  have h1 := and1 (wd a 0) (wd_lt a 0)
  have HB : Hid ((V (wd a 0 % 2) == 1) = decide (a % 2 = 1)) := by
    show _ = _
    rw [wd0_mod2]
    have : a % 2 = 0 ∨ a % 2 = 1 := by omega
    rcases this with h | h <;> rw [h] <;> rfl
  show Calls Tryd.prog 49 #[.agg #[nv (wd a 0), nv (wd a 1), nv (wd a 2), nv (wd a 3)]] w _
  go_enter Tryd.func49, Tryd.ntmps49
  go_wp2_with fail
  go_returns
  exact ⟨by rw [← HB.out]; rfl, by go_grown⟩
set_option maxRecDepth 100000 in
set_option maxHeartbeats 400000 in
theorem feBytes (a : Nat) (w : World) :
    Calls Tryd.prog 48 #[fe a] w fun e w' => e = .returned (.agg ((leB a 32).map cv).toArray) ∧ Below w.heap.size w w' := by
  have hz := zero32
  show Calls Tryd.prog 48 #[.agg #[nv (wd a 0), nv (wd a 1), nv (wd a 2), nv (wd a 3)]] w _
  go_enter Tryd.func48, Tryd.ntmps48
  go_wp2_with fail
  refine (bytes_wd a _).mono ?_
  rintro e W1 ⟨rfl, hB⟩
  have hz1 := hB.size
  simp only [World.size_alloc] at hB hz1
  obtain ⟨R, HR⟩ : ∃ R, Hid (R = (leB a 32).map cv) := ⟨_, rfl⟩
  rw [← HR.out]
  have hRl : R.length = 32 := by rw [HR.out, List.length_map, leB_length]
  have HSz : Hid ((Tryd.prog.info? 47).map (·.size) = some R.toArray.size) := by show _ = _; rw [size32]; simp [hRl]
  have HOo : Hid (z32.size = R.toArray.size) := by show _ = _; simp [hRl]; rfl
  have HA : Hid (R.toArray.all (·.oneCell') = true) := by rw [HR.out]; exact all_oneCell_toArray (bytes_cell _)
  have H1 : Hid (W1.heap[w.heap.size + 1]? = some (.cells z32 47 (0, 0))) := (hB.block _ (by omega)).trans (heap_alloc2_new _ _ _)
  have HB : Hid (Below w.heap.size w W1) := (((Below.refl _ w).alloc (Nat.le_refl _) _).alloc (by simp) _).trans (hB.mono (by omega))
  clear hB hRl hz
  go_wp2_with (first | (refine wpList_store_row (by rfl) 47 (.tmp 2) (.tmp 4) (by rfl) (w.heap.size + 1) R.toArray (by rfl) (by rfl) 47 _ H1.out HSz.out HOo.out HA.out ?_))
  refine bodyPost_ret (v := .agg R.toArray) (results_cell_row Tryd.results48 _ _ (w.heap.size + 1) 47 R.toArray (0, 0) _ (by rfl) (setRow_heap _ _ _ _ _ _ H1.out) under32 rfl HSz.out) rfl ⟨by rw [HR.out], below_setRow HB.out (by omega) _⟩
end Go.Proofs.YtemdlpcljjdfjaaDoor
