import Derived.Test.YtemdlpcljjdfjaaDoorRefF2
/- The document's answer: mul. -/
namespace Go.Proofs.YtemdlpcljjdfjaaDoor
open Go.RowKit
theorem heap5_0 (w : World) (A B C D E : Obj) : (((((w.alloc A).alloc B).alloc C).alloc D).alloc E).heap[w.heap.size]? = some A := by
  rw [heap_alloc_old _ _ (by simp <;> omega), heap_alloc_old _ _ (by simp <;> omega)]; exact heap3_0 _ _ _ _
theorem heap5_1 (w : World) (A B C D E : Obj) : (((((w.alloc A).alloc B).alloc C).alloc D).alloc E).heap[w.heap.size + 1]? = some B := by
  rw [heap_alloc_old _ _ (by simp <;> omega), heap_alloc_old _ _ (by simp <;> omega)]; exact heap3_1 _ _ _ _
theorem heap5_2 (w : World) (A B C D E : Obj) : (((((w.alloc A).alloc B).alloc C).alloc D).alloc E).heap[w.heap.size + 2]? = some C := by
  rw [heap_alloc_old _ _ (by simp <;> omega), heap_alloc_old _ _ (by simp)]; exact heap3_2 _ _ _ _
theorem heap5_3 (w : World) (A B C D E : Obj) : (((((w.alloc A).alloc B).alloc C).alloc D).alloc E).heap[w.heap.size + 3]? = some D := by
  have := heap_alloc2_new ((((w.alloc A).alloc B).alloc C)) D E
  rw [heap_alloc_old _ _ (by simp)]
  have e := heap_alloc_new (((w.alloc A).alloc B).alloc C) D
  simpa using e
theorem heap5_4 (w : World) (A B C D E : Obj) : (((((w.alloc A).alloc B).alloc C).alloc D).alloc E).heap[w.heap.size + 4]? = some E := by
  have e := heap_alloc_new ((((w.alloc A).alloc B).alloc C).alloc D) E
  simpa using e
/-- The blocks of a product. -/
structure MW (w wr : World) (A B low high : List Int) : Prop where
  r0 : wr.heap[w.heap.size]? = some (.cells (A.map iv).toArray 76 (0, 0))
  r1 : wr.heap[w.heap.size + 1]? = some (.cells (B.map iv).toArray 76 (0, 0))
  r2 : wr.heap[w.heap.size + 2]? = some (.cells zF 76 (0, 0))
  r3 : wr.heap[w.heap.size + 3]? = some (.cells (low.map iv).toArray 76 (0, 0))
  r4 : wr.heap[w.heap.size + 4]? = some (.cells (high.map iv).toArray 76 (0, 0))
  be : Below w.heap.size w wr
theorem MW.low {w wr : World} {A B low high : List Int} (h : MW w wr A B low high) (i : Nat) (v : Int) : MW w (wr.setCell ⟨w.heap.size + 3, i, none⟩ (iv v)) A B (low.set i v) high :=
  ⟨far_row _ _ h.r0 (by omega), far_row _ _ h.r1 (by omega), far_row _ _ h.r2 (by omega), by rw [List.map_set]; exact row_store h.r3 i _, far_row _ _ h.r4 (by omega), h.be.setCell (by show _ ≤ _; simp) _⟩
theorem MW.high {w wr : World} {A B low high : List Int} (h : MW w wr A B low high) (i : Nat) (v : Int) : MW w (wr.setCell ⟨w.heap.size + 4, i, none⟩ (iv v)) A B low (high.set i v) :=
  ⟨far_row _ _ h.r0 (by omega), far_row _ _ h.r1 (by omega), far_row _ _ h.r2 (by omega), far_row _ _ h.r3 (by omega), by rw [List.map_set]; exact row_store h.r4 i _, h.be.setCell (by show _ ≤ _; simp) _⟩
theorem MW.drew {w wr : World} {A B low high : List Int} (h : MW w wr A B low high) : MW w wr.drew A B low high := ⟨h.r0, h.r1, h.r2, h.r3, h.r4, h.be.drew⟩
theorem MI.bnd {a b low high : List Int} {i k : Nat} (h : MI a b low high i k) (hi : 10 * i + k ≤ 100) : (∀ x ∈ low, -450359962737049600 ≤ x ∧ x ≤ 450359962737049600) ∧ (∀ x ∈ high, -450359962737049600 ≤ x ∧ x ≤ 450359962737049600) := by
  constructor
  · intro x hx; have := h.bl x hx; omega
  · intro x hx; have := h.bh x hx; omega
section
attribute [local go_sem] and26
set_option maxRecDepth 100000 in
set_option maxHeartbeats 1000000 in
theorem refMul (a b : Nat) (ha : a < P) (hb : b < P) (w : World) :
    Calls Tryd.prog 56 #[fF a, fF b] w fun e w' => e = .returned (fF (mP a b)) ∧ Below w.heap.size w w' := by
  have hz := zeroF
  obtain ⟨M, HM⟩ : ∃ M, Hid (M = ((fd a).map iv).toArray) := ⟨_, rfl⟩
  obtain ⟨N, HN⟩ : ∃ N, Hid (N = ((fd b).map iv).toArray) := ⟨_, rfl⟩
  obtain ⟨A, HA⟩ : ∃ A, Hid (A = fd a) := ⟨_, rfl⟩
  obtain ⟨B, HB⟩ : ∃ B, Hid (B = fd b) := ⟨_, rfl⟩
  have HAl : Hid (A.length = 10) := by rw [HA.out]; exact fd_length a
  have HBl : Hid (B.length = 10) := by rw [HB.out]; exact fd_length b
  have HAb : Hid (∀ x ∈ A, 0 ≤ x ∧ x < 67108864) := by rw [HA.out]; exact fd_lt a
  have HBb : Hid (∀ x ∈ B, 0 ≤ x ∧ x < 67108864) := by rw [HB.out]; exact fd_lt b
  have HAv : Hid (vB 67108864 A = a) := by rw [HA.out]; exact fd_val a ha
  have HBv : Hid (vB 67108864 B = b) := by rw [HB.out]; exact fd_val b hb
  show Calls _ _ #[.agg ((fd a).map iv).toArray, .agg ((fd b).map iv).toArray] w _
  rw [← HM.out, ← HN.out]
  rw [← HA.out] at HM
  rw [← HB.out] at HN
  clear ha hb HA HB
  go_enter Tryd.func56, Tryd.ntmps56
  go_wp2_with fail
  go_loopw [7] (fun iV wr => ∃ (i : Nat) (low high : List Int), i ≤ 10 ∧ iV = .int .i64 i ∧ Hid (MI A B low high i 0) ∧ Hid (MW w wr A B low high)) (fun i _ => 10 - (intOf i).toNat)
  case atStart =>
    refine ⟨0, List.replicate 10 0, List.replicate 10 0, Nat.zero_le _, rfl, MI.start A B, ⟨?_, ?_, heap5_2 _ _ _ _ _ _, heap5_3 _ _ _ _ _ _, heap5_4 _ _ _ _ _ _, by go_grown⟩⟩
    · rw [← HM.out]; exact heap5_0 _ _ _ _ _ _
    · rw [← HN.out]; exact heap5_1 _ _ _ _ _ _
  case round =>
    obtain ⟨i, low, high, hi, rfl, HI, HW⟩ := hrel
    clear hz
    by_cases hlt : i < 10
    · have bi : (i : Int) < 10 := by omega
      have ca := ivs_get HW.out.r0 i (by rw [HAl.out]; exact hlt)
      obtain ⟨x, HX⟩ : ∃ x, Hid (x = A.getD i 0) := ⟨_, rfl⟩
      rw [← HX.out] at ca
      have hx := HAb.out _ (getD_mem (l := A) (i := i) (by rw [HAl.out]; exact hlt))
      rw [← HX.out] at hx
      obtain ⟨x0, x1⟩ := hx
      go_wp2_with fail
      clear ca
      go_loopw [9] (fun kV wr => ∃ (k : Nat) (low high : List Int), i + k ≤ 10 ∧ kV = .int .i64 k ∧ Hid (MI A B low high i k) ∧ Hid (MW w wr A B low high)) (fun k _ => 10 - (intOf k).toNat)
      case atStart => exact ⟨0, low, high, by omega, rfl, HI, HW⟩
      case round =>
        clear HI HW low high
        obtain ⟨k, low, high, hk, rfl, HI, HW⟩ := hrel
        have hs1 : IntKind.i64.wrap (10 - (i : Int)) = 10 - (i : Int) := by rw [IntKind.wrap_i64]; omega
        by_cases hk10 : i + k < 10
        · have bk : (k : Int) < 10 - (i : Int) := by omega
          have es : IntKind.i64.wrap ((i : Int) + (k : Int)) = ((i + k : Nat) : Int) := by rw [IntKind.wrap_i64]; omega
          have bs : ((i + k : Nat) : Int) < 10 := by omega
          have bk2 : (k : Int) < 10 := by omega
          have cl := ivs_get HW.out.r3 (i + k) (by rw [HI.out.ll]; exact hk10)
          have cb := ivs_get HW.out.r1 k (by rw [HBl.out]; omega)
          have f3 := frozen_of_row wr (w.heap.size + 3) (i + k) _ _ HW.out.r3
          obtain ⟨y, HY⟩ : ∃ y, Hid (y = B.getD k 0) := ⟨_, rfl⟩
          obtain ⟨u, HU⟩ : ∃ u, Hid (u = low.getD (i + k) 0) := ⟨_, rfl⟩
          rw [← HY.out] at cb
          rw [← HU.out] at cl
          have hy := HBb.out _ (getD_mem (l := B) (i := k) (by rw [HBl.out]; omega))
          rw [← HY.out] at hy
          obtain ⟨p0, p1⟩ := prod_le ⟨x0, x1⟩ hy
          have hu := HI.out.bl _ (getD_mem (l := low) (i := i + k) (by rw [HI.out.ll]; exact hk10))
          rw [← HU.out] at hu
          have hw1 : IntKind.i64.wrap (x * y) = x * y := by rw [IntKind.wrap_i64]; omega
          have hw2 : IntKind.i64.wrap (u + x * y) = u + x * y := by rw [IntKind.wrap_i64]; omega
          have HN1 : Hid (MI A B (low.set (i + k) (u + x * y)) high i (k + 1)) := by
            rw [HU.out, HX.out, HY.out]; exact HI.out.low HBl.out HAb.out HBb.out (by rw [HAl.out]; exact hlt) (by omega) hk10
          have HN2 := hide (HW.out.low (i + k) (u + x * y)).drew
          clear hy hu p0 p1
          go_wp2_with fail
          go_region
          go_wp2_with fail
          exact ⟨⟨k + 1, _, _, by omega, by go_num, HN1, HN2⟩, by simp [intOf]; omega⟩
        · have hk' : i + k = 10 := by omega
          have bk : 10 - (i : Int) ≤ (k : Int) := by omega
          go_wp2_with fail
          go_loopw [10] (fun kV wr => ∃ (k : Nat) (low high : List Int), 10 ≤ i + k ∧ k ≤ 10 ∧ kV = .int .i64 k ∧ Hid (MI A B low high i k) ∧ Hid (MW w wr A B low high)) (fun k _ => 10 - (intOf k).toNat)
          case atStart => exact ⟨k, low, high, by omega, by omega, by show _ = _; congr 1; omega, HI, HW⟩
          case round =>
            clear HI HW low high bk hk10 hk' hs1
            obtain ⟨n, low, high, hik, hn, rfl, HI, HW⟩ := hrel
            by_cases hn10 : n < 10
            · have bk : (n : Int) < 10 := by omega
              have es : IntKind.i64.wrap ((i : Int) + (n : Int)) = (i : Int) + (n : Int) := by rw [IntKind.wrap_i64]; omega
              have es2 : IntKind.i64.wrap ((i : Int) + (n : Int) - 10) = ((i + n - 10 : Nat) : Int) := by rw [IntKind.wrap_i64]; omega
              have bs : ((i + n - 10 : Nat) : Int) < 10 := by omega
              have cl := ivs_get HW.out.r4 (i + n - 10) (by rw [HI.out.hl]; omega)
              have cb := ivs_get HW.out.r1 n (by rw [HBl.out]; omega)
              have f3 := frozen_of_row wr (w.heap.size + 4) (i + n - 10) _ _ HW.out.r4
              obtain ⟨y, HY⟩ : ∃ y, Hid (y = B.getD n 0) := ⟨_, rfl⟩
              obtain ⟨u, HU⟩ : ∃ u, Hid (u = high.getD (i + n - 10) 0) := ⟨_, rfl⟩
              rw [← HY.out] at cb
              rw [← HU.out] at cl
              have hy := HBb.out _ (getD_mem (l := B) (i := n) (by rw [HBl.out]; omega))
              rw [← HY.out] at hy
              obtain ⟨p0, p1⟩ := prod_le ⟨x0, x1⟩ hy
              have hu := HI.out.bh _ (getD_mem (l := high) (i := i + n - 10) (by rw [HI.out.hl]; omega))
              rw [← HU.out] at hu
              have hw1 : IntKind.i64.wrap (x * y) = x * y := by rw [IntKind.wrap_i64]; omega
              have hw2 : IntKind.i64.wrap (u + x * y) = u + x * y := by rw [IntKind.wrap_i64]; omega
              obtain ⟨j, hj⟩ : ∃ j, j = i + n - 10 := ⟨_, rfl⟩
              have HN1 : Hid (MI A B low (high.set j (u + x * y)) i (n + 1)) := by
                rw [hj, HU.out, HX.out, HY.out]; exact HI.out.high HBl.out HAb.out HBb.out (by rw [HAl.out]; exact hlt) HAl.out hn10 hik
              have HN2 := hide (HW.out.high j (u + x * y)).drew
              rw [← hj] at es2 bs cl f3
              clear hy hu p0 p1 hj
              go_wp2_with fail
              go_region
              go_wp2_with fail
              exact ⟨⟨n + 1, _, _, by omega, by omega, by go_num, HN1, HN2⟩, by simp [intOf]; omega⟩
            · obtain rfl : n = 10 := by omega
              have bk : (10 : Int) ≤ ((10 : Nat) : Int) := by omega
              go_wp2_with fail
              exact ⟨⟨i + 1, low, high, by omega, by go_num, HI.out.next HBl.out (by rw [HAl.out]; exact hlt), HW⟩, by simp [intOf]; omega⟩
    · obtain rfl : i = 10 := by omega
      have bi : (10 : Int) ≤ ((10 : Nat) : Int) := by omega
      have HV : Hid (vB 67108864 low + 67108864 ^ 10 * vB 67108864 high = (a : Int) * b) := by
        show _ = _
        have e := HI.out.val
        rw [List.take_of_length_le (show A.length ≤ 10 by rw [HAl.out]; exact Nat.le_refl _), HAv.out, HBv.out] at e
        rw [e]
        simp [vB]
      have HLl := hide HI.out.ll
      have HHl := hide HI.out.hl
      obtain ⟨hbl, hbh⟩ := HI.out.bnd (by omega)
      have HLb := hide hbl
      have HHb := hide hbh
      clear hbl hbh hlt hi HI HAb HBb HAv HBv
      go_wp2_with fail
      go_loopw [11, 12] (fun cV iV wr => ∃ (j : Nat) (z : Int), j ≤ 10 ∧ iV = .int .i64 j ∧ cV = .int .i64 z ∧ Hid (z = carry 67108864 high j) ∧ Hid (MW w wr A B low (rowC 67108864 high j))) (fun _ i _ => 10 - (intOf i).toNat)
      case atStart => exact ⟨0, 0, Nat.zero_le _, rfl, rfl, rfl, by rw [rowC_zero]; exact HW⟩
      case round =>
        clear HW
        obtain ⟨j, z, hj, rfl, rfl, HZ, HW⟩ := hrel
        by_cases hj10 : j < 10
        · have bj : (j : Int) < 10 := by omega
          have hz1 := carry_bound 67108864 (by decide) high 450359962737049600 HHb.out (by decide) j (by rw [HHl.out]; omega)
          rw [← HZ.out] at hz1
          obtain ⟨z0, z1⟩ := hz1
          have c0 := ivs_get HW.out.r4 j (by rw [rowC_length, HHl.out]; omega)
          rw [rowC_get _ _ _ (by rw [HHl.out]; omega)] at c0
          have f0 := frozen_of_row wr (w.heap.size + 4) j _ _ HW.out.r4
          obtain ⟨x, HX⟩ : ∃ x, Hid (x = high.getD j 0) := ⟨_, rfl⟩
          rw [← HX.out] at c0
          have hx := HHb.out _ (getD_mem (l := high) (i := j) (by rw [HHl.out]; omega))
          rw [← HX.out] at hx
          obtain ⟨x0, x1⟩ := hx
          have hw1 : IntKind.i64.wrap (x + z) = x + z := by rw [IntKind.wrap_i64]; omega
          have HN2 := hide (HW.out.high j ((x + z) % 67108864))
          go_wp2_with fail
          refine ⟨⟨j + 1, (x + z) / 67108864, by omega, by go_num, rfl, ?_, ?_⟩, by simp [intOf]; omega⟩
          · show _ = _; simp only [carry]; rw [← HX.out, ← HZ.out]
          · rw [← rowC_step _ _ _ (by rw [HHl.out]; omega), ← HX.out, ← HZ.out]
            exact HN2
        · obtain rfl : j = 10 := by omega
          have bj : (10 : Int) ≤ ((10 : Nat) : Int) := by omega
          have HZb : Hid (-13421772800 ≤ z ∧ z ≤ 13421772800) := by
            have h9 := carry_bound 67108864 (by decide) high 450359962737049600 HHb.out (by decide) 9 (by rw [HHl.out]; omega)
            have hx := HHb.out _ (getD_mem (l := high) (i := 9) (by rw [HHl.out]; omega))
            have e : z = (high.getD 9 0 + carry 67108864 high 9) / 67108864 := HZ.out
            show -13421772800 ≤ z ∧ z ≤ 13421772800
            omega
          obtain ⟨H, HH⟩ : ∃ H, Hid (H = rowC 67108864 high 10) := ⟨_, rfl⟩
          rw [← HH.out] at HW
          have HHv : Hid (vB 67108864 H = vB 67108864 high - 67108864 ^ 10 * z) := by
            have e := rowC_val 67108864 high 10 (by rw [HHl.out]; exact Nat.le_refl _)
            rw [← HH.out, ← HZ.out] at e
            show _ = _
            omega
          have HHl2 : Hid (H.length = 10) := by show _ = _; rw [HH.out, rowC_length]; exact HHl.out
          have HHb2 : Hid (∀ x ∈ H, 0 ≤ x ∧ x < 67108864) := by
            rw [HH.out]
            have e := rowC_all 67108864 (by decide) high
            rw [HHl.out] at e
            rw [e]
            exact dB_lt _ (by decide) _ _
          clear HZ HH hj10 hj HHb
          go_wp2_with fail
          go_loopw [14] (fun iV wr => ∃ (j : Nat), j ≤ 10 ∧ iV = .int .i64 j ∧ Hid (MW w wr A B (addM 608 low H j) H)) (fun i _ => 10 - (intOf i).toNat)
          case atStart => exact ⟨0, Nat.zero_le _, rfl, by rw [addM_zero]; exact HW⟩
          case round =>
            clear HW
            obtain ⟨j, hj, rfl, HW⟩ := hrel
            by_cases hj10 : j < 10
            · have bj : (j : Int) < 10 := by omega
              have c0 := ivs_get HW.out.r3 j (by rw [addM_length, HLl.out]; exact hj10)
              rw [addM_get _ _ _ _ (by rw [HLl.out]; exact hj10)] at c0
              have c1 := ivs_get HW.out.r4 j (by rw [HHl2.out]; exact hj10)
              have f0 := frozen_of_row wr (w.heap.size + 3) j _ _ HW.out.r3
              obtain ⟨x, HX⟩ : ∃ x, Hid (x = low.getD j 0) := ⟨_, rfl⟩
              obtain ⟨y, HY⟩ : ∃ y, Hid (y = H.getD j 0) := ⟨_, rfl⟩
              rw [← HX.out] at c0
              rw [← HY.out] at c1
              have hx := HLb.out _ (getD_mem (l := low) (i := j) (by rw [HLl.out]; exact hj10))
              have hy := HHb2.out _ (getD_mem (l := H) (i := j) (by rw [HHl2.out]; exact hj10))
              rw [← HX.out] at hx
              rw [← HY.out] at hy
              obtain ⟨x0, x1⟩ := hx
              obtain ⟨y0, y1⟩ := hy
              have hw1 : IntKind.i64.wrap (608 * y) = 608 * y := by rw [IntKind.wrap_i64]; omega
              have hw2 : IntKind.i64.wrap (x + 608 * y) = x + 608 * y := by rw [IntKind.wrap_i64]; omega
              have HN2 := hide (HW.out.low j (x + 608 * y)).drew
              go_wp2_with fail
              go_region
              go_wp2_with fail
              refine ⟨⟨j + 1, by omega, by go_num, ?_⟩, by simp [intOf]; omega⟩
              rw [← addM_step _ _ _ _ (by rw [HLl.out]; exact hj10), ← HX.out, ← HY.out]
              exact HN2
            · obtain rfl : j = 10 := by omega
              have bj : (10 : Int) ≤ ((10 : Nat) : Int) := by omega
              obtain ⟨L, HLe⟩ : ∃ L, Hid (L = addM 608 low H 10) := ⟨_, rfl⟩
              rw [← HLe.out] at HW
              have HLv : Hid (vB 67108864 L = vB 67108864 low + 608 * vB 67108864 H) := by
                have e := addM_all 67108864 608 low H (by rw [HLl.out, HHl2.out])
                rw [HLl.out, ← HLe.out] at e
                exact e
              have HL2 : Hid (L.length = 10) := by show _ = _; rw [HLe.out, addM_length]; exact HLl.out
              have HL3 : Hid (∀ x ∈ L, -450360003539238912 ≤ x ∧ x ≤ 450360003539238912) := by
                rw [HLe.out]
                refine addM_bound 608 low H 10 (by rw [HLl.out, HHl2.out]) 450359962737049600 40802189312 _ HLb.out ?_ (by decide) (by decide)
                intro x hx
                have := HHb2.out x hx
                omega
              have c0 := ivs_get HW.out.r3 0 (by rw [HL2.out]; decide)
              have f0 := frozen_of_row wr (w.heap.size + 3) 0 _ _ HW.out.r3
              obtain ⟨y, HY⟩ : ∃ y, Hid (y = L.getD 0 0) := ⟨_, rfl⟩
              rw [← HY.out] at c0
              have hy := HL3.out _ (getD_mem (l := L) (i := 0) (by rw [HL2.out]; decide))
              rw [← HY.out] at hy
              obtain ⟨y0, y1⟩ := hy
              obtain ⟨z0, z1⟩ := HZb.out
              have hw1 : IntKind.i64.wrap (369664 * z) = 369664 * z := by rw [IntKind.wrap_i64]; omega
              have hw2 : IntKind.i64.wrap (y + 369664 * z) = y + 369664 * z := by rw [IntKind.wrap_i64]; omega
              obtain ⟨S, HSe⟩ : ∃ S, Hid (S = L.set 0 (y + 369664 * z)) := ⟨_, rfl⟩
              have HS : Hid (stl S = mP a b) := by
                refine stl_mul a b low high HV.out z S ?_
                rw [HSe.out, vB_set _ _ _ _ (by rw [HL2.out]; decide), ← HY.out, HLv.out, HHv.out]
                rw [int_cancel, Int.pow_zero, Int.mul_one]
              have HSl : Hid (S.length = 10) := by show _ = _; rw [HSe.out, List.length_set]; exact HL2.out
              have HSb : Hid (∀ x ∈ S, -2305843009213693952 ≤ x ∧ x ≤ 2305843009213693952) := by
                intro x hx
                rw [HSe.out] at hx
                rcases List.mem_or_eq_of_mem_set hx with h | h
                · have := HL3.out x h; omega
                · omega
              have HN2 := hide (HW.out.low 0 (y + 369664 * z))
              rw [← HSe.out] at HN2
              have HSz := hide (ivF_size HSl.out)
              clear hj10 hj
              go_upto_region 27 with fail
              obtain ⟨W2, hW2⟩ : ∃ W2, W2 = wr.setCell ⟨w.heap.size + 3, 0, none⟩ (iv (y + 369664 * z)) := ⟨_, rfl⟩
              rw [← hW2] at HN2 ⊢
              have J2 := hide HN2.out.r2
              have J3 := hide HN2.out.r3
              have J4 := hide HN2.out.be
              clear hW2 c0 f0 HW HN2 hw1 hw2 y0 y1 z0 z1
              go_wp2_with (first | (refine wpList_load_row (by rfl) 76 (.tmp 5) (by rfl) (w.heap.size + 3) (by rfl) 76 (S.map iv).toArray (0, 0) _ J3.out underF rfl HSz.out ?_))
              refine (settled_any S HSl.out HSb.out _).mono ?_
              rintro e W1 ⟨rfl, hB1⟩
              have hlt1 := lt_row J2.out
              have H2b : Hid (W1.heap[w.heap.size + 2]? = some (.cells zF 76 (0, 0))) := row_below J2.out hB1 hlt1
              have HB2 : Hid (Below w.heap.size w W1) := J4.out.trans (hB1.mono (by omega))
              rw [HS.out]
              obtain ⟨R, HR⟩ : ∃ R, Hid (R = ((fd (mP a b)).map iv).toArray) := ⟨_, rfl⟩
              rw [← HR.out]
              have HRz : Hid ((Tryd.prog.info? 76).map (·.size) = some R.size) := by show _ = _; rw [HR.out]; exact ivF_size (fd_length _)
              have HRo : Hid (zF.size = R.size) := by show _ = _; rw [HR.out]; exact ivF_old (fd_length _)
              have HRa : Hid (R.all (·.oneCell') = true) := by rw [HR.out]; exact ivF_all _
              clear hB1 hlt1 J2 J3 J4 HSz
              go_wp2_with (first | (refine wpList_store_row (by rfl) 76 (.tmp 4) (.tmp 102) (by rfl) (w.heap.size + 2) R (by rfl) (by rfl) 76 _ H2b.out HRz.out HRo.out HRa.out ?_))
              refine bodyPost_ret (v := .agg R) (results_cell_row Tryd.results56 _ _ (w.heap.size + 2) 76 R (0, 0) _ (by rfl) (setRow_heap _ _ _ _ _ _ H2b.out) underF rfl HRz.out) rfl ⟨by rw [HR.out], below_setRow HB2.out (by omega) _⟩
end
end Go.Proofs.YtemdlpcljjdfjaaDoor
