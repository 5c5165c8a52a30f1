import Derived.Test.YtemdlpcljjdfjaaDoorRefRoot
import Derived.Test.YtemdlpcljjdfjaaDoorBitMath
import Derived.Deep.CutRange
/- The document's answer: fieldOf. -/
namespace Go.Proofs.YtemdlpcljjdfjaaDoor
open Go.RowKit
theorem fd_inj' {a b : Nat} (ha : a < 57896044618658097711785492504343953926634992332820282019728792003956564819968) (hb : b < 57896044618658097711785492504343953926634992332820282019728792003956564819968) (h : fd a = fd b) : a = b := by
  have e := congrArg (vB 67108864) h
  unfold fd at e
  rw [vB_dB _ (by decide), vB_dB _ (by decide), show (67108864 : Int) ^ 10 = 1852673427797059126777135760139006525652319754650249024631321344126610074238976 from by decide] at e
  omega
theorem eqA' (a b : Nat) (ha : a < 57896044618658097711785492504343953926634992332820282019728792003956564819968) (hb : b < 57896044618658097711785492504343953926634992332820282019728792003956564819968) (w : World) :
    (Op.equalIn 10000 76 (.agg (fA a)) (.agg (fA b))).run Tryd.prog w = .ok (decide (a = b)) w := by
  refine (eqF (fd a) (fd b) (fd_length a) (fd_length b) w).trans ?_
  congr 1
  by_cases h : a = b
  · subst h; simp
  · rw [decide_eq_false h, decide_eq_false (fun e => h (fd_inj' ha hb e))]
theorem stl_fd (n : Nat) (h : n < 57896044618658097711785492504343953926634992332820282019728792003956564819968) : stl (fd n) = n % P := by
  unfold stl fd
  have e : (n : Int) % 1852673427797059126777135760139006525652319754650249024631321344126610074238976 = n := by omega
  rw [vB_dB _ (by decide), show (67108864 : Int) ^ 10 = 1852673427797059126777135760139006525652319754650249024631321344126610074238976 from by decide, e, P_val]
  omega
theorem settledA (n : Nat) (h : n < 57896044618658097711785492504343953926634992332820282019728792003956564819968) (w : World) :
    Calls Tryd.prog 80 #[.agg (fA n)] w fun e w' => e = .returned (.agg (fA (n % P))) ∧ Below w.heap.size w w' := by
  have e := settled_any (fd n) (fd_length n) (fun x hx => by have := fd_lt n x hx; omega) w
  rw [stl_fd n h] at e
  exact e
/-- The number of 32 bytes without the highest bit. -/
def yOf (s : ByteArray) : Nat := valLE (bytesOf s) % 57896044618658097711785492504343953926634992332820282019728792003956564819968
theorem yOf_lt (s : ByteArray) : yOf s < 57896044618658097711785492504343953926634992332820282019728792003956564819968 := Nat.mod_lt _ (by decide)
section
attribute [local irreducible] fA fc
attribute [local go_sem] fold10
set_option maxRecDepth 100000 in
set_option maxHeartbeats 400000 in
theorem fieldOfA (s : ByteArray) (hs : s.size = 32) (w : World) :
    Calls Tryd.prog 60 #[.string s] w fun e w' => e = .returned (.tuple #[.agg (fA (yOf s % P)), .bool (decide (yOf s = yOf s % P))]) ∧ Below w.heap.size w w' := by
  have hz := zeroFA
  obtain ⟨N, HN⟩ : ∃ N, Hid (N = valLE (bytesOf s)) := ⟨_, rfl⟩
  have HS := hide hs
  clear hs
  go_enter Tryd.func60, Tryd.ntmps60
  go_wp2_with fail
  go_loopw [5] (fun iV wr => ∃ (i : Nat), i ≤ 255 ∧ iV = .int .i64 i ∧ Hid (wr.heap[w.heap.size]? = some (.cells (fA 0) 76 (0, 0))) ∧ Hid (wr.heap[w.heap.size + 1]? = some (.cells (fA (N % 2 ^ i)) 76 (0, 0))) ∧ Hid (Below w.heap.size w wr)) (fun i _ => 255 - (intOf i).toNat)
  case atStart => exact ⟨0, Nat.zero_le _, rfl, at2_0 _ _ _, by rw [Nat.pow_zero, Nat.mod_one]; exact at2_1 _ _ _, by show Below _ _ _; go_grown⟩
  case round =>
    obtain ⟨i, hi, rfl, H0, H1, HB⟩ := hrel
    by_cases hlt : i < 255
    · have bi : (i : Int) < 255 := by omega
      obtain ⟨q, hq⟩ : ∃ q, q = i / 8 := ⟨_, rfl⟩
      obtain ⟨r, hr⟩ : ∃ r, r = i % 8 := ⟨_, rfl⟩
      obtain ⟨j, hj⟩ : ∃ j, j = i / 26 := ⟨_, rfl⟩
      obtain ⟨t, ht⟩ : ∃ t, t = i % 26 := ⟨_, rfl⟩
      have e8 : (i : Int) / 8 = (q : Int) := by omega
      have er : (i : Int) % 8 = (r : Int) := by omega
      have e26 : (i : Int) / 26 = (j : Int) := by omega
      have et : (i : Int) % 26 = (t : Int) := by omega
      have hs32 : s.size = 32 := HS.out
      have bq : (q : Int) < (s.size : Int) := by omega
      have br : (r : Int) < 8 := by omega
      have bj : (j : Int) < 10 := by omega
      have bt : (t : Int) < 26 := by omega
      have hidx := strAt s q (by omega)
      obtain ⟨x, HX⟩ : ∃ x, Hid (x = C8 ((bytesOf s).getD q 0)) := ⟨_, rfl⟩
      rw [← HX.out] at hidx
      have x0 : 0 ≤ x := by rw [HX.out]; exact C8_nonneg _
      have x1 : x < 256 := by rw [HX.out]; exact C8_lt _
      have HBit : Hid (x / 2 ^ r % 2 = ((N / 2 ^ i % 2 : Nat) : Int)) := by
        show _ = _
        rw [HN.out, valLE_bit, ← hq, ← hr, HX.out]
        unfold C8
        generalize ((bytesOf s).getD q 0).toNat = u
        rw [Int.natCast_emod, Int.natCast_ediv, Int.natCast_pow]; rfl
      clear hs32
      have hnn : 0 ≤ x / 2 ^ r := Int.ediv_nonneg x0 (Int.le_of_lt (Int.pow_pos (by decide)))
      have hcase : (((x / 2 ^ r).tmod 2 == 1) = true ∧ N / 2 ^ i % 2 = 1) ∨ (((x / 2 ^ r).tmod 2 == 1) = false ∧ ¬ N / 2 ^ i % 2 = 1) := by
        rw [Int.tmod_eq_emod_of_nonneg hnn, HBit.out]
        by_cases hp : N / 2 ^ i % 2 = 1
        · exact .inl ⟨by rw [hp]; rfl, hp⟩
        · exact .inr ⟨by rw [beq_eq_false_iff_ne]; omega, hp⟩
      clear hnn
      rcases hcase with ⟨hb, hp⟩ | ⟨hb, hp⟩
      · have hE : N % 2 ^ (i + 1) = N % 2 ^ i + 2 ^ i := by rw [mod_bit, if_pos hp]
        obtain ⟨m, HM⟩ : ∃ m, Hid (m = N % 2 ^ i) := ⟨_, rfl⟩
        have hml : m < 2 ^ i := by rw [HM.out]; exact Nat.mod_lt _ (Nat.pow_pos (by decide))
        rw [← HM.out] at hE H1
        have hbit := fd_bit m i hml hlt
        have hdg := fd_lt m _ (getD_mem (l := fd m) (i := j) (by rw [fd_length]; omega))
        have hp26 := pow26_le i
        rw [← hj, ← ht] at hbit
        rw [← ht] at hp26
        have c1 := ivs_get (l := fd m) (T := 76) (fr := (0, 0)) (by have e := H1.out; unfold fA at e; exact e) j (by rw [fd_length]; omega)
        have f1 := frozen_of_row wr (w.heap.size + 1) j _ _ H1.out
        obtain ⟨y, HY⟩ : ∃ y, Hid (y = (fd m).getD j 0) := ⟨_, rfl⟩
        rw [← HY.out] at c1 hbit hdg
        obtain ⟨y0, y1⟩ := hdg
        have ep : ((2 ^ t : Nat) : Int) = (2 : Int) ^ t := Int.natCast_pow 2 t
        have hsh : IntKind.i64.wrap (2 ^ t) = 2 ^ t := by
          rw [← ep, IntKind.wrap_i64]; generalize 2 ^ t = p at *; omega
        have hsh1 : IntKind.i64.wrap (1 * 2 ^ t) = 2 ^ t := by rw [Int.one_mul]; exact hsh
        have hadd : IntKind.i64.wrap (y + 2 ^ t) = y + 2 ^ t := by
          rw [← ep, IntKind.wrap_i64]; generalize 2 ^ t = p at *; omega
        have HR : Hid ((fd m).set j (y + 2 ^ t) = fd (N % 2 ^ (i + 1))) := by
          show _ = _
          rw [hE, ← hbit, ep]
        clear ep
        clear hE hp hq hr hj ht hbit hp26 hml
        go_wp2_with fail
        go_region
        go_wp2_with fail
        refine ⟨⟨i + 1, by omega, by go_num, far_drew _ _ H0.out (by omega), ?_, (HB.out.setCell (by show _ ≤ _; simp) _).drew⟩, by simp [intOf]; omega⟩
        show _ = some (Obj.cells (fA (N % 2 ^ (i + 1))) _ _)
        have e0 : wr.heap[w.heap.size + 1]? = some (.cells ((fd m).map iv).toArray 76 (0, 0)) := by have e := H1.out; unfold fA at e; exact e
        have e := row_store e0 j (iv (y + 2 ^ t))
        rw [← List.map_set, HR.out] at e
        unfold fA
        exact e
      · have hE : N % 2 ^ (i + 1) = N % 2 ^ i := by rw [mod_bit, if_neg hp, Nat.add_zero]
        have HE := hide hE
        clear hE hp hq hr hj ht
        go_wp2_with fail
        exact ⟨⟨i + 1, by omega, by go_num, H0, by rw [HE.out]; exact H1, HB⟩, by simp [intOf]; omega⟩
    · obtain rfl : i = 255 := by omega
      have bi : (255 : Int) ≤ ((255 : Nat) : Int) := by omega
      obtain ⟨y, HY⟩ : ∃ y, Hid (y = yOf s) := ⟨_, rfl⟩
      have Hy : Hid (y < 57896044618658097711785492504343953926634992332820282019728792003956564819968) := by rw [HY.out]; exact yOf_lt s
      have H1' : Hid (wr.heap[w.heap.size + 1]? = some (.cells (fA y) 76 (0, 0))) := by
        rw [HY.out]; unfold yOf; rw [← HN.out]; exact H1.out
      clear H1
      go_wp2_with (first | (refine wpList_load_row (by rfl) 76 (.tmp 4) (by rfl) (w.heap.size + 1) (by rfl) 76 (fA y) (0, 0) _ H1'.out underF rfl (fA_size _) ?_))
      refine (settledA y Hy.out _).mono ?_
      rintro e W1 ⟨rfl, hB1⟩
      have R0 := hide (row_keep' H0.out hB1)
      have R1 := hide (row_keep' H1'.out hB1)
      have BL : Hid (Below w.heap.size w W1) := HB.out.trans (hB1.mono HB.out.size)
      clear hB1 H0 H1' HB hlt hi
      obtain ⟨z, HZ⟩ : ∃ z, Hid (z = y % P) := ⟨_, rfl⟩
      have Hz : Hid (z < 57896044618658097711785492504343953926634992332820282019728792003956564819968) := by
        show z < _
        rw [HZ.out]; exact Nat.lt_of_le_of_lt (Nat.mod_le _ _) Hy.out
      rw [← HZ.out]
      go_wp2_with (first | (refine wpList_store_row (by rfl) 76 (.tmp 6) (.tmp 32) (by rfl) W1.heap.size (fA z) (by rfl) (by rfl) 76 _ (heap_alloc_new _ _) (fA_size _) (fA_old _ _) (fA_all _) ?_))
      obtain ⟨q, hq⟩ : ∃ q, q = W1.heap.size := ⟨_, rfl⟩
      obtain ⟨W2, hW2⟩ : ∃ W, W = (W1.alloc (.cells (fA 0) 76)).setRow W1.heap.size (fA z) := ⟨_, rfl⟩
      have hq1 : w.heap.size + 1 < q := by rw [hq]; exact lt_row R1.out
      have B0 : Hid (W2.heap[w.heap.size]? = some (.cells (fA 0) 76 (0, 0))) := by
        rw [hW2]; exact (setRow_other _ _ _ _ (by omega)).trans ((heap_alloc_old _ _ (by omega)).trans R0.out)
      have B1 : Hid (W2.heap[w.heap.size + 1]? = some (.cells (fA y) 76 (0, 0))) := by
        rw [hW2]; exact (setRow_other _ _ _ _ (by omega)).trans ((heap_alloc_old _ _ (by omega)).trans R1.out)
      have B2 : Hid (W2.heap[q]? = some (.cells (fA z) 76 (0, 0))) := by
        rw [hW2, hq]; exact setRow_heap _ _ _ _ _ _ (heap_alloc_new _ _)
      have BB : Hid (Below w.heap.size w W2) := by
        rw [hW2]; exact below_setRow (BL.out.alloc BL.out.size _) (by omega) _
      rw [← hW2, ← hq]
      clear hW2 hq R0 R1 BL hz
      have heq := eqA' y z Hy.out Hz.out
      have hst := storeRow_run (P := Tryd.prog) (w := W2.drew) (cs := fA z) B0.out (fA_old _ _) (fA_all _)
      have hs10 := fA_len z
      obtain ⟨c0, c1, c2, c3, c4, c5, c6, c7, c8, c9⟩ := c10_of B1.out
      obtain ⟨d0, d1, d2, d3, d4, d5, d6, d7, d8, d9⟩ := c10_of B2.out
      obtain ⟨a0, a1, a2, a3, a4, a5, a6, a7, a8, a9⟩ := c10_of (w := W2.drew.setRow w.heap.size (fA z)) ((setRow_other _ _ _ _ (by omega)).trans B1.out)
      obtain ⟨b0, b1, b2, b3, b4, b5, b6, b7, b8, b9⟩ := c10_of (w := W2.drew.setRow w.heap.size (fA z)) ((setRow_other _ _ _ _ (by omega)).trans B2.out)
      try rw [put_none']
      go_region
      clear a0 a1 a2 a3 a4 a5 a6 a7 a8 a9 b0 b1 b2 b3 b4 b5 b6 b7 b8 b9
      clear heq hst hs10 c0 c1 c2 c3 c4 c5 c6 c7 c8 c9 d0 d1 d2 d3 d4 d5 d6 d7 d8 d9
      go_wp2_with fail
      refine bodyPost_ret (v := .tuple #[.agg (fA z), .bool (decide (y = z))]) (results_cell_tmp_row Tryd.results60 _ _ (w.heap.size) 76 (fA z) (0, 0) _ (by rfl) (setRow_heap W2.drew _ _ _ _ _ B0.out) underF rfl (fA_size _)) rfl ⟨by rw [HZ.out, HY.out], below_setRow BB.out.drew (Nat.le_refl _) _⟩
end
end Go.Proofs.YtemdlpcljjdfjaaDoor
