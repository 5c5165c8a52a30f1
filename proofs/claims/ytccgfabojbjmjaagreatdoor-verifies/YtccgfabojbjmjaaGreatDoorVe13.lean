import Derived.Test.YtccgfabojbjmjaaGreatDoorVe08
import Derived.Test.YtccgfabojbjmjaaGreatDoorVe09
namespace Go.Proofs.YtccgfabojbjmjaaGreatDoor
open Go.RowKit
theorem heap5_0 (w : World) (A B C D E : Obj) : (((((w.alloc A).alloc B).alloc C).alloc D).alloc E).heap[w.heap.size]? = some A := by
 rw [heap_alloc_old _ _ (by simp <;> omega), heap_alloc_old _ _ (by simp <;> omega)]; exact heap3_0 _ _ _ _
theorem heap5_1 (w : World) (A B C D E : Obj) : (((((w.alloc A).alloc B).alloc C).alloc D).alloc E).heap[w.heap.size + 1]? = some B := by
 rw [heap_alloc_old _ _ (by simp <;> omega), heap_alloc_old _ _ (by simp <;> omega)]; exact heap3_1 _ _ _ _
theorem heap5_2 (w : World) (A B C D E : Obj) : (((((w.alloc A).alloc B).alloc C).alloc D).alloc E).heap[w.heap.size + 2]? = some C := by
 rw [heap_alloc_old _ _ (by simp <;> omega), heap_alloc_old _ _ (by simp)]; exact heap3_2 _ _ _ _
theorem heap5_3 (w : World) (A B C D E : Obj) : (((((w.alloc A).alloc B).alloc C).alloc D).alloc E).heap[w.heap.size + 3]? = some D := by
 have := heap_alloc2_new ((((w.alloc A).alloc B).alloc C)) D E
 rw [heap_alloc_old _ _ (by simp)]
 have e := heap_alloc_new (((w.alloc A).alloc B).alloc C) D
 simpa using e
theorem heap5_4 (w : World) (A B C D E : Obj) : (((((w.alloc A).alloc B).alloc C).alloc D).alloc E).heap[w.heap.size + 4]? = some E := by
 have e := heap_alloc_new ((((w.alloc A).alloc B).alloc C).alloc D) E
 simpa using e
structure MW (w wr : World) (A B low high : List Int) : Prop where
 r0 : wr.heap[w.heap.size]? = some (.cells (A.map iv).toArray 95 (0, 0))
 r1 : wr.heap[w.heap.size + 1]? = some (.cells (B.map iv).toArray 95 (0, 0))
 r2 : wr.heap[w.heap.size + 2]? = some (.cells zF 95 (0, 0))
 r3 : wr.heap[w.heap.size + 3]? = some (.cells (low.map iv).toArray 95 (0, 0))
 r4 : wr.heap[w.heap.size + 4]? = some (.cells (high.map iv).toArray 95 (0, 0))
 be : Below w.heap.size w wr
theorem MW.low {w wr : World} {A B low high : List Int} (h : MW w wr A B low high) (i : Nat) (v : Int) : MW w (wr.setCell ⟨w.heap.size + 3, i, none⟩ (iv v)) A B (low.set i v) high :=
 ⟨far_row _ _ h.r0 (by omega), far_row _ _ h.r1 (by omega), far_row _ _ h.r2 (by omega), by rw [List.map_set]; exact row_store h.r3 i _, far_row _ _ h.r4 (by omega), h.be.setCell (by show _ ≤ _; simp) _⟩
theorem MW.high {w wr : World} {A B low high : List Int} (h : MW w wr A B low high) (i : Nat) (v : Int) : MW w (wr.setCell ⟨w.heap.size + 4, i, none⟩ (iv v)) A B low (high.set i v) :=
 ⟨far_row _ _ h.r0 (by omega), far_row _ _ h.r1 (by omega), far_row _ _ h.r2 (by omega), far_row _ _ h.r3 (by omega), by rw [List.map_set]; exact row_store h.r4 i _, h.be.setCell (by show _ ≤ _; simp) _⟩
theorem MW.drew {w wr : World} {A B low high : List Int} (h : MW w wr A B low high) : MW w wr.drew A B low high := ⟨h.r0, h.r1, h.r2, h.r3, h.r4, h.be.drew⟩
theorem MI.bnd {a b low high : List Int} {i k : Nat} (h : MI a b low high i k) (hi : 10 * i + k ≤ 100) : (∀ x ∈ low, -450359962737049600 ≤ x ∧ x ≤ 450359962737049600) ∧ (∀ x ∈ high, -450359962737049600 ≤ x ∧ x ≤ 450359962737049600) := by
 constructor
 · intro x hx; have := h.bl x hx; omega
 · intro x hx; have := h.bh x hx; omega
section
attribute [local go_sem] and26
set_option maxRecDepth 100000 in
set_option maxHeartbeats 1000000 in
theorem refMul (a b : Nat) (ha : a < P) (hb : b < P) (w : World) :
  Calls Tryz.prog 63 #[fF a, fF b] w fun e w' => e = .returned (fF (mP a b)) ∧ Below w.heap.size w w' := by
 have hz := zeroF
 obtain ⟨M, HM⟩ : ∃ M, Hid (M = ((fd a).map iv).toArray) := ⟨_, rfl⟩
 obtain ⟨N, HN⟩ : ∃ N, Hid (N = ((fd b).map iv).toArray) := ⟨_, rfl⟩
 obtain ⟨A, HA⟩ : ∃ A, Hid (A = fd a) := ⟨_, rfl⟩
 obtain ⟨B, HB⟩ : ∃ B, Hid (B = fd b) := ⟨_, rfl⟩
 have HAl : Hid (A.length = 10) := by rw [HA.out]; exact fd_length a
 have HBl : Hid (B.length = 10) := by rw [HB.out]; exact fd_length b
 have HAb : Hid (∀ x ∈ A, 0 ≤ x ∧ x < 67108864) := by rw [HA.out]; exact fd_lt a
 have HBb : Hid (∀ x ∈ B, 0 ≤ x ∧ x < 67108864) := by rw [HB.out]; exact fd_lt b
 have HAv : Hid (vB 67108864 A = a) := by rw [HA.out]; exact fd_val a ha
 have HBv : Hid (vB 67108864 B = b) := by rw [HB.out]; exact fd_val b hb
 show Calls _ _ #[.agg ((fd a).map iv).toArray, .agg ((fd b).map iv).toArray] w _
 rw [← HM.out, ← HN.out]
 rw [← HA.out] at HM
 rw [← HB.out] at HN
 clear ha hb HA HB
 go_enter Tryz.func63, Tryz.ntmps63
 go_wp2_with fail
 go_loopw [7] (fun iV wr => ∃ (i : Nat) (low high : List Int), i ≤ 10 ∧ iV = .int .i64 i ∧ Hid (MI A B low high i 0) ∧ Hid (MW w wr A B low high)) (fun i _ => 10 - (intOf i).toNat)
 case atStart =>
  refine ⟨0, List.replicate 10 0, List.replicate 10 0, Nat.zero_le _, rfl, MI.start A B, ⟨?_, ?_, heap5_2 _ _ _ _ _ _, heap5_3 _ _ _ _ _ _, heap5_4 _ _ _ _ _ _, by go_grown⟩⟩
  · rw [← HM.out]; exact heap5_0 _ _ _ _ _ _
  · rw [← HN.out]; exact heap5_1 _ _ _ _ _ _
 case round =>
  obtain ⟨i, low, high, hi, rfl, HI, HW⟩ := hrel
  clear hz
  by_cases hlt : i < 10
  ·
   have bi : (i : Int) < 10 := by omega
   have ca := ivs_get HW.out.r0 i (by rw [HAl.out]; exact hlt)
   obtain ⟨x, HX⟩ : ∃ x, Hid (x = A.getD i 0) := ⟨_, rfl⟩
   rw [← HX.out] at ca
   have hx := HAb.out _ (getD_mem (l := A) (i := i) (by rw [HAl.out]; exact hlt))
   rw [← HX.out] at hx
   obtain ⟨x0, x1⟩ := hx
   go_wp2_with fail
   clear ca
   go_loopw [9] (fun kV wr => ∃ (k : Nat) (low high : List Int), i + k ≤ 10 ∧ kV = .int .i64 k ∧ Hid (MI A B low high i k) ∧ Hid (MW w wr A B low high)) (fun k _ => 10 - (intOf k).toNat)
   case atStart => exact ⟨0, low, high, by omega, rfl, HI, HW⟩
   case round =>
    clear HI HW low high
    obtain ⟨k, low, high, hk, rfl, HI, HW⟩ := hrel
    have hs1 : IntKind.i64.wrap (10 - (i : Int)) = 10 - (i : Int) := by rw [IntKind.wrap_i64]; omega
    by_cases hk10 : i + k < 10
    ·
     have bk : (k : Int) < 10 - (i : Int) := by omega
     have es : IntKind.i64.wrap ((i : Int) + (k : Int)) = ((i + k : Nat) : Int) := by rw [IntKind.wrap_i64]; omega
     have bs : ((i + k : Nat) : Int) < 10 := by omega
     have bk2 : (k : Int) < 10 := by omega
     have cl := ivs_get HW.out.r3 (i + k) (by rw [HI.out.ll]; exact hk10)
     have cb := ivs_get HW.out.r1 k (by rw [HBl.out]; omega)
     have f3 := frozen_of_row wr (w.heap.size + 3) (i + k) _ _ HW.out.r3
     obtain ⟨y, HY⟩ : ∃ y, Hid (y = B.getD k 0) := ⟨_, rfl⟩
     obtain ⟨u, HU⟩ : ∃ u, Hid (u = low.getD (i + k) 0) := ⟨_, rfl⟩
     rw [← HY.out] at cb
     rw [← HU.out] at cl
     have hy := HBb.out _ (getD_mem (l := B) (i := k) (by rw [HBl.out]; omega))
     rw [← HY.out] at hy
     obtain ⟨p0, p1⟩ := prod_le ⟨x0, x1⟩ hy
     have hu := HI.out.bl _ (getD_mem (l := low) (i := i + k) (by rw [HI.out.ll]; exact hk10))
     rw [← HU.out] at hu
     have hw1 : IntKind.i64.wrap (x * y) = x * y := by rw [IntKind.wrap_i64]; omega
     have hw2 : IntKind.i64.wrap (u + x * y) = u + x * y := by rw [IntKind.wrap_i64]; omega
     have HN1 : Hid (MI A B (low.set (i + k) (u + x * y)) high i (k + 1)) := by
      rw [HU.out, HX.out, HY.out]; exact HI.out.low HBl.out HAb.out HBb.out (by rw [HAl.out]; exact hlt) (by omega) hk10
     have HN2 := hide (HW.out.low (i + k) (u + x * y)).drew
     clear hy hu p0 p1
     go_wp2_with fail
     go_region
     go_wp2_with fail
     exact ⟨⟨k + 1, _, _, by omega, by go_num, HN1, HN2⟩, by simp [intOf]; omega⟩
    ·
     have hk' : i + k = 10 := by omega
     have bk : 10 - (i : Int) ≤ (k : Int) := by omega
     go_wp2_with fail
     go_loopw [10] (fun kV wr => ∃ (k : Nat) (low high : List Int), 10 ≤ i + k ∧ k ≤ 10 ∧ kV = .int .i64 k ∧ Hid (MI A B low high i k) ∧ Hid (MW w wr A B low high)) (fun k _ => 10 - (intOf k).toNat)
     case atStart => exact ⟨k, low, high, by omega, by omega, by show _ = _; congr 1; omega, HI, HW⟩
     case round =>
      clear HI HW low high bk hk10 hk' hs1
      obtain ⟨n, low, high, hik, hn, rfl, HI, HW⟩ := hrel
      by_cases hn10 : n < 10
      ·
       have bk : (n : Int) < 10 := by omega
       have es : IntKind.i64.wrap ((i : Int) + (n : Int)) = (i : Int) + (n : Int) := by rw [IntKind.wrap_i64]; omega
       have es2 : IntKind.i64.wrap ((i : Int) + (n : Int) - 10) = ((i + n - 10 : Nat) : Int) := by rw [IntKind.wrap_i64]; omega
       have bs : ((i + n - 10 : Nat) : Int) < 10 := by omega
       have cl := ivs_get HW.out.r4 (i + n - 10) (by rw [HI.out.hl]; omega)
       have cb := ivs_get HW.out.r1 n (by rw [HBl.out]; omega)
       have f3 := frozen_of_row wr (w.heap.size + 4) (i + n - 10) _ _ HW.out.r4
       obtain ⟨y, HY⟩ : ∃ y, Hid (y = B.getD n 0) := ⟨_, rfl⟩
       obtain ⟨u, HU⟩ : ∃ u, Hid (u = high.getD (i + n - 10) 0) := ⟨_, rfl⟩
       rw [← HY.out] at cb
       rw [← HU.out] at cl
       have hy := HBb.out _ (getD_mem (l := B) (i := n) (by rw [HBl.out]; omega))
       rw [← HY.out] at hy
       obtain ⟨p0, p1⟩ := prod_le ⟨x0, x1⟩ hy
       have hu := HI.out.bh _ (getD_mem (l := high) (i := i + n - 10) (by rw [HI.out.hl]; omega))
       rw [← HU.out] at hu
       have hw1 : IntKind.i64.wrap (x * y) = x * y := by rw [IntKind.wrap_i64]; omega
       have hw2 : IntKind.i64.wrap (u + x * y) = u + x * y := by rw [IntKind.wrap_i64]; omega
       obtain ⟨j, hj⟩ : ∃ j, j = i + n - 10 := ⟨_, rfl⟩
       have HN1 : Hid (MI A B low (high.set j (u + x * y)) i (n + 1)) := by
        rw [hj, HU.out, HX.out, HY.out]; exact HI.out.high HBl.out HAb.out HBb.out (by rw [HAl.out]; exact hlt) HAl.out hn10 hik
       have HN2 := hide (HW.out.high j (u + x * y)).drew
       rw [← hj] at es2 bs cl f3
       clear hy hu p0 p1 hj
       go_wp2_with fail
       go_region
       go_wp2_with fail
       exact ⟨⟨n + 1, _, _, by omega, by omega, by go_num, HN1, HN2⟩, by simp [intOf]; omega⟩
      ·
       obtain rfl : n = 10 := by omega
       have bk : (10 : Int) ≤ ((10 : Nat) : Int) := by omega
       go_wp2_with fail
       exact ⟨⟨i + 1, low, high, by omega, by go_num, HI.out.next HBl.out (by rw [HAl.out]; exact hlt), HW⟩, by simp [intOf]; omega⟩
  ·
   obtain rfl : i = 10 := by omega
   have bi : (10 : Int) ≤ ((10 : Nat) : Int) := by omega
   have HV : Hid (vB 67108864 low + 67108864 ^ 10 * vB 67108864 high = (a : Int) * b) := by
    show _ = _
    have e := HI.out.val
    rw [List.take_of_length_le (show A.length ≤ 10 by rw [HAl.out]; exact Nat.le_refl _), HAv.out, HBv.out] at e
    rw [e]
    simp [vB]
   have HLl := hide HI.out.ll
   have HHl := hide HI.out.hl
   obtain ⟨hbl, hbh⟩ := HI.out.bnd (by omega)
   have HLb := hide hbl
   have HHb := hide hbh
   clear hbl hbh hlt hi HI HAb HBb HAv HBv
   go_wp2_with fail
   go_loopw [11, 12] (fun cV iV wr => ∃ (j : Nat) (z : Int), j ≤ 10 ∧ iV = .int .i64 j ∧ cV = .int .i64 z ∧ Hid (z = carry 67108864 high j) ∧ Hid (MW w wr A B low (rowC 67108864 high j))) (fun _ i _ => 10 - (intOf i).toNat)
   case atStart => exact ⟨0, 0, Nat.zero_le _, rfl, rfl, rfl, by rw [rowC_zero]; exact HW⟩
   case round =>
    clear HW
    obtain ⟨j, z, hj, rfl, rfl, HZ, HW⟩ := hrel
    by_cases hj10 : j < 10
    ·
     have bj : (j : Int) < 10 := by omega
     have hz1 := carry_bound 67108864 (by decide) high 450359962737049600 HHb.out (by decide) j (by rw [HHl.out]; omega)
     rw [← HZ.out] at hz1
     obtain ⟨z0, z1⟩ := hz1
     have c0 := ivs_get HW.out.r4 j (by rw [rowC_length, HHl.out]; omega)
     rw [rowC_get _ _ _ (by rw [HHl.out]; omega)] at c0
     have f0 := frozen_of_row wr (w.heap.size + 4) j _ _ HW.out.r4
     obtain ⟨x, HX⟩ : ∃ x, Hid (x = high.getD j 0) := ⟨_, rfl⟩
     rw [← HX.out] at c0
     have hx := HHb.out _ (getD_mem (l := high) (i := j) (by rw [HHl.out]; omega))
     rw [← HX.out] at hx
     obtain ⟨x0, x1⟩ := hx
     have hw1 : IntKind.i64.wrap (x + z) = x + z := by rw [IntKind.wrap_i64]; omega
     have HN2 := hide (HW.out.high j ((x + z) % 67108864))
     go_wp2_with fail
     refine ⟨⟨j + 1, (x + z) / 67108864, by omega, by go_num, rfl, ?_, ?_⟩, by simp [intOf]; omega⟩
     · show _ = _; simp only [carry]; rw [← HX.out, ← HZ.out]
     ·
      rw [← rowC_step _ _ _ (by rw [HHl.out]; omega), ← HX.out, ← HZ.out]
      exact HN2
    ·
     obtain rfl : j = 10 := by omega
     have bj : (10 : Int) ≤ ((10 : Nat) : Int) := by omega
     have HZb : Hid (-13421772800 ≤ z ∧ z ≤ 13421772800) := by
      have h9 := carry_bound 67108864 (by decide) high 450359962737049600 HHb.out (by decide) 9 (by rw [HHl.out]; omega)
      have hx := HHb.out _ (getD_mem (l := high) (i := 9) (by rw [HHl.out]; omega))
      have e : z = (high.getD 9 0 + carry 67108864 high 9) / 67108864 := HZ.out
      show -13421772800 ≤ z ∧ z ≤ 13421772800
      omega
     obtain ⟨H, HH⟩ : ∃ H, Hid (H = rowC 67108864 high 10) := ⟨_, rfl⟩
     rw [← HH.out] at HW
     have HHv : Hid (vB 67108864 H = vB 67108864 high - 67108864 ^ 10 * z) := by
      have e := rowC_val 67108864 high 10 (by rw [HHl.out]; exact Nat.le_refl _)
      rw [← HH.out, ← HZ.out] at e
      show _ = _
      omega
     have HHl2 : Hid (H.length = 10) := by show _ = _; rw [HH.out, rowC_length]; exact HHl.out
     have HHb2 : Hid (∀ x ∈ H, 0 ≤ x ∧ x < 67108864) := by
      rw [HH.out]
      have e := rowC_all 67108864 (by decide) high
      rw [HHl.out] at e
      rw [e]
      exact dB_lt _ (by decide) _ _
     clear HZ HH hj10 hj HHb
     go_wp2_with fail
     go_loopw [14] (fun iV wr => ∃ (j : Nat), j ≤ 10 ∧ iV = .int .i64 j ∧ Hid (MW w wr A B (addM 608 low H j) H)) (fun i _ => 10 - (intOf i).toNat)
     case atStart => exact ⟨0, Nat.zero_le _, rfl, by rw [addM_zero]; exact HW⟩
     case round =>
      clear HW
      obtain ⟨j, hj, rfl, HW⟩ := hrel
      by_cases hj10 : j < 10
      ·
       have bj : (j : Int) < 10 := by omega
       have c0 := ivs_get HW.out.r3 j (by rw [addM_length, HLl.out]; exact hj10)
       rw [addM_get _ _ _ _ (by rw [HLl.out]; exact hj10)] at c0
       have c1 := ivs_get HW.out.r4 j (by rw [HHl2.out]; exact hj10)
       have f0 := frozen_of_row wr (w.heap.size + 3) j _ _ HW.out.r3
       obtain ⟨x, HX⟩ : ∃ x, Hid (x = low.getD j 0) := ⟨_, rfl⟩
       obtain ⟨y, HY⟩ : ∃ y, Hid (y = H.getD j 0) := ⟨_, rfl⟩
       rw [← HX.out] at c0
       rw [← HY.out] at c1
       have hx := HLb.out _ (getD_mem (l := low) (i := j) (by rw [HLl.out]; exact hj10))
       have hy := HHb2.out _ (getD_mem (l := H) (i := j) (by rw [HHl2.out]; exact hj10))
       rw [← HX.out] at hx
       rw [← HY.out] at hy
       obtain ⟨x0, x1⟩ := hx
       obtain ⟨y0, y1⟩ := hy
       have hw1 : IntKind.i64.wrap (608 * y) = 608 * y := by rw [IntKind.wrap_i64]; omega
       have hw2 : IntKind.i64.wrap (x + 608 * y) = x + 608 * y := by rw [IntKind.wrap_i64]; omega
       have HN2 := hide (HW.out.low j (x + 608 * y)).drew
       go_wp2_with fail
       go_region
       go_wp2_with fail
       refine ⟨⟨j + 1, by omega, by go_num, ?_⟩, by simp [intOf]; omega⟩
       rw [← addM_step _ _ _ _ (by rw [HLl.out]; exact hj10), ← HX.out, ← HY.out]
       exact HN2
      ·
       obtain rfl : j = 10 := by omega
       have bj : (10 : Int) ≤ ((10 : Nat) : Int) := by omega
       obtain ⟨L, HLe⟩ : ∃ L, Hid (L = addM 608 low H 10) := ⟨_, rfl⟩
       rw [← HLe.out] at HW
       have HLv : Hid (vB 67108864 L = vB 67108864 low + 608 * vB 67108864 H) := by
        have e := addM_all 67108864 608 low H (by rw [HLl.out, HHl2.out])
        rw [HLl.out, ← HLe.out] at e
        exact e
       have HL2 : Hid (L.length = 10) := by show _ = _; rw [HLe.out, addM_length]; exact HLl.out
       have HL3 : Hid (∀ x ∈ L, -450360003539238912 ≤ x ∧ x ≤ 450360003539238912) := by
        rw [HLe.out]
        refine addM_bound 608 low H 10 (by rw [HLl.out, HHl2.out]) 450359962737049600 40802189312 _ HLb.out ?_ (by decide) (by decide)
        intro x hx
        have := HHb2.out x hx
        omega
       have c0 := ivs_get HW.out.r3 0 (by rw [HL2.out]; decide)
       have f0 := frozen_of_row wr (w.heap.size + 3) 0 _ _ HW.out.r3
       obtain ⟨y, HY⟩ : ∃ y, Hid (y = L.getD 0 0) := ⟨_, rfl⟩
       rw [← HY.out] at c0
       have hy := HL3.out _ (getD_mem (l := L) (i := 0) (by rw [HL2.out]; decide))
       rw [← HY.out] at hy
       obtain ⟨y0, y1⟩ := hy
       obtain ⟨z0, z1⟩ := HZb.out
       have hw1 : IntKind.i64.wrap (369664 * z) = 369664 * z := by rw [IntKind.wrap_i64]; omega
       have hw2 : IntKind.i64.wrap (y + 369664 * z) = y + 369664 * z := by rw [IntKind.wrap_i64]; omega
       obtain ⟨S, HSe⟩ : ∃ S, Hid (S = L.set 0 (y + 369664 * z)) := ⟨_, rfl⟩
       have HS : Hid (stl S = mP a b) := by
        refine stl_mul a b low high HV.out z S ?_
        rw [HSe.out, vB_set _ _ _ _ (by rw [HL2.out]; decide), ← HY.out, HLv.out, HHv.out]
        rw [int_cancel, Int.pow_zero, Int.mul_one]
       have HSl : Hid (S.length = 10) := by show _ = _; rw [HSe.out, List.length_set]; exact HL2.out
       have HSb : Hid (∀ x ∈ S, -2305843009213693952 ≤ x ∧ x ≤ 2305843009213693952) := by
        intro x hx
        rw [HSe.out] at hx
        rcases List.mem_or_eq_of_mem_set hx with h | h
        · have := HL3.out x h; omega
        · omega
       have HN2 := hide (HW.out.low 0 (y + 369664 * z))
       rw [← HSe.out] at HN2
       have HSz := hide (ivF_size HSl.out)
       clear hj10 hj
       go_upto_region 27 with fail
       obtain ⟨W2, hW2⟩ : ∃ W2, W2 = wr.setCell ⟨w.heap.size + 3, 0, none⟩ (iv (y + 369664 * z)) := ⟨_, rfl⟩
       rw [← hW2] at HN2 ⊢
       have J2 := hide HN2.out.r2
       have J3 := hide HN2.out.r3
       have J4 := hide HN2.out.be
       clear hW2 c0 f0 HW HN2 hw1 hw2 y0 y1 z0 z1
       go_wp2_with (first | (refine wpList_load_row (by rfl) 95 (.tmp 5) (by rfl) (w.heap.size + 3) (by rfl) 95 (S.map iv).toArray (0, 0) _ J3.out underF rfl HSz.out ?_))
       refine (settled_any S HSl.out HSb.out _).mono ?_
       rintro e W1 ⟨rfl, hB1⟩
       have hlt1 := lt_row J2.out
       have H2b : Hid (W1.heap[w.heap.size + 2]? = some (.cells zF 95 (0, 0))) := row_below J2.out hB1 hlt1
       have HB2 : Hid (Below w.heap.size w W1) := J4.out.trans (hB1.mono (by omega))
       rw [HS.out]
       obtain ⟨R, HR⟩ : ∃ R, Hid (R = ((fd (mP a b)).map iv).toArray) := ⟨_, rfl⟩
       rw [← HR.out]
       have HRz : Hid ((Tryz.prog.info? 95).map (·.size) = some R.size) := by show _ = _; rw [HR.out]; exact ivF_size (fd_length _)
       have HRo : Hid (zF.size = R.size) := by show _ = _; rw [HR.out]; exact ivF_old (fd_length _)
       have HRa : Hid (R.all (·.oneCell') = true) := by rw [HR.out]; exact ivF_all _
       clear hB1 hlt1 J2 J3 J4 HSz
       go_wp2_with (first | (refine wpList_store_row (by rfl) 95 (.tmp 4) (.tmp 102) (by rfl) (w.heap.size + 2) R (by rfl) (by rfl) 95 _ H2b.out HRz.out HRo.out HRa.out ?_))
       refine bodyPost_ret (v := .agg R) (results_cell_row Tryz.results63 _ _ (w.heap.size + 2) 95 R (0, 0) _ (by rfl) (setRow_heap _ _ _ _ _ _ H2b.out) underF rfl HRz.out) rfl ⟨by rw [HR.out], below_setRow HB2.out (by omega) _⟩
end
def fA (n : Nat) : Array Value := ((fd n).map iv).toArray
theorem fA_size (n : Nat) : (Tryz.prog.info? 95).map (·.size) = some (fA n).size := ivF_size (fd_length n)
theorem fA_len (n : Nat) : (fA n).size = 10 := by simp [fA, fd_length]
theorem fA_old (m n : Nat) : (fA m).size = (fA n).size := by rw [fA_len, fA_len]
theorem fA_all (n : Nat) : (fA n).all (·.oneCell') = true := ivF_all _
theorem fd_small (n : Nat) (h : n < 67108864) : fd n = (n : Int) :: List.replicate 9 0 := by
 have hall : ∀ x ∈ (n : Int) :: List.replicate 9 (0 : Int), 0 ≤ x ∧ x < 67108864 := by
  intro x hx
  simp only [List.mem_cons, List.mem_replicate] at hx
  omega
 have e := dB_vB 67108864 (by decide) _ hall
 have e2 : vB 67108864 ((n : Int) :: List.replicate 9 0) = n := by simp [vB]
 rw [e2] at e
 exact e
theorem fA_small (n : Nat) (h : n < 67108864) : fA n = #[iv n, iv 0, iv 0, iv 0, iv 0, iv 0, iv 0, iv 0, iv 0, iv 0] := by
 unfold fA; rw [fd_small n h]; rfl
theorem zF_A : zF = fA 0 := (fA_small 0 (by decide)).symm
theorem zeroFA (w : World) : (zeroValue 95).run Tryz.prog w = .ok (.agg (fA 0)) w := by rw [← zF_A]; exact zeroF w
theorem mulA (a b : Nat) (ha : a < P) (hb : b < P) (w : World) :
  Calls Tryz.prog 63 #[.agg (fA a), .agg (fA b)] w fun e w' => e = .returned (.agg (fA (mP a b))) ∧ Below w.heap.size w w' := refMul a b ha hb w
theorem addA (a b : Nat) (ha : a < P) (hb : b < P) (w : World) :
  Calls Tryz.prog 109 #[.agg (fA a), .agg (fA b)] w fun e w' => e = .returned (.agg (fA (aP a b))) ∧ Below w.heap.size w w' := refAdd a b ha hb w
theorem subA' (a b : Nat) (ha : a < P) (hb : b < P) (w : World) :
  Calls Tryz.prog 64 #[.agg (fA a), .agg (fA b)] w fun e w' => e = .returned (.agg (fA (sP a b))) ∧ Below w.heap.size w w' := refSub a b ha hb w
theorem row_keep' {w w' : World} {g : Nat} {o : Obj} (h : w.heap[g]? = some o) (hb : Below w.heap.size w w') : w'.heap[g]? = some o := (hb.block g (lt_row h)).trans h
section
attribute [local irreducible] fA
set_option maxRecDepth 100000 in
set_option maxHeartbeats 400000 in
theorem smallA (n : Nat) (h : n < 67108864) (w : World) :
  Calls Tryz.prog 65 #[.int .i64 n] w fun e w' => e = .returned (.agg (fA n)) ∧ Below w.heap.size w w' := by
 have hz := zeroF
 have HF := hide (fA_small n h)
 have HS := hide (fA_size n)
 have HO : Hid (zF.size = (fA n).size) := by rw [zF_A]; exact fA_old _ _
 have HA := hide (fA_all n)
 obtain ⟨R, HR⟩ : ∃ R, Hid (R = fA n) := ⟨_, rfl⟩
 rw [← HR.out] at HS HO HA HF ⊢
 obtain ⟨z, HZ⟩ : ∃ z : Int, Hid (z = n) := ⟨_, rfl⟩
 rw [← HZ.out] at HF ⊢
 have h3 : z % 67108864 = z := by rw [HZ.out]; omega
 have h4 : z / 67108864 = 0 := by rw [HZ.out]; omega
 have h5 : z < 67108864 := by rw [HZ.out]; omega
 have h6 : 0 ≤ z := by rw [HZ.out]; omega
 have h1 : Int.tmod z 67108864 = z := by rw [Int.tmod_eq_emod_of_nonneg h6, h3]
 have h2 : Int.tdiv z 67108864 = 0 := by rw [Int.tdiv_eq_ediv_of_nonneg h6, h4]
 clear h
 go_enter Tryz.func65, Tryz.ntmps65
 go_wp2_with (first | (refine wpList_store_row (by rfl) 95 (.tmp 2) (.tmp 7) (by rfl) w.heap.size #[iv z, iv 0, iv 0, iv 0, iv 0, iv 0, iv 0, iv 0, iv 0, iv 0] (by rfl) (by rfl) 95 _ (heap_alloc_new _ _) (by rw [← HF.out]; exact HS.out) (by rw [← HF.out]; exact HO.out) (by rw [← HF.out]; exact HA.out) ?_))
 rw [← HF.out]
 exact bodyPost_ret (v := .agg R) (results_cell_row Tryz.results65 _ _ w.heap.size 95 R (0, 0) _ (by rfl) (setRow_heap _ _ _ _ _ _ (heap_alloc_new _ _)) underF rfl HS.out) rfl ⟨rfl, below_setRow ((Below.refl _ _).alloc (Nat.le_refl _) _) (Nat.le_refl _) _⟩
end
section
attribute [local irreducible] fA
set_option maxRecDepth 100000 in
set_option maxHeartbeats 400000 in
theorem powerA (a k b : Nat) (ha : a < P) (hb : b < P) (hk : k ≤ 1000) (w : World) :
  Calls Tryz.prog 108 #[.agg (fA a), .int .i64 k, .agg (fA b)] w fun e w' => e = .returned (.agg (fA (mP (sqN k a) b))) ∧ Below w.heap.size w w' := by
 have hz := zeroFA
 have Ha := hide ha
 have Hb := hide hb
 clear ha hb
 go_enter Tryz.func108, Tryz.ntmps108
 go_wp2_with fail
 go_loopw [1] (fun sV wr => ∃ (j i : Nat), i + j = k ∧ sV = .int .i64 j ∧ Hid (wr.heap[w.heap.size]? = some (.cells (fA (sqN i a)) 95 (0, 0))) ∧ Hid (wr.heap[w.heap.size + 1]? = some (.cells (fA b) 95 (0, 0))) ∧ Hid (wr.heap[w.heap.size + 2]? = some (.cells (fA 0) 95 (0, 0))) ∧ Hid (Below w.heap.size w wr)) (fun s _ => (intOf s).toNat)
 case atStart => exact ⟨k, 0, by omega, rfl, heap3_0 _ _ _ _, heap3_1 _ _ _ _, heap3_2 _ _ _ _, by show Below _ _ _; go_grown⟩
 case round =>
  obtain ⟨j, i, hij, rfl, H0, H1, H2, HB⟩ := hrel
  obtain ⟨x, HX⟩ : ∃ x, Hid (x = sqN i a) := ⟨_, rfl⟩
  have Hx : Hid (x < P) := by rw [HX.out]; exact sqN_lt i a Ha.out
  rw [← HX.out] at H0
  clear hz
  by_cases hj : 0 < j
  ·
   have bj : (0 : Int) < (j : Int) := by omega
   go_wp2_with (first | (refine wpList_load_row (by rfl) 95 (.tmp 3) (by rfl) w.heap.size (by rfl) 95 (fA x) (0, 0) _ H0.out underF rfl (fA_size _) ?_))
   refine (mulA x x Hx.out Hx.out _).mono ?_
   rintro e W1 ⟨rfl, hB1⟩
   have K0 := hide (row_keep' H0.out hB1)
   have K1 := hide (row_keep' H1.out hB1)
   have K2 := hide (row_keep' H2.out hB1)
   have hl2 := lt_row H2.out
   have KB : Hid (Below w.heap.size w W1) := HB.out.trans (hB1.mono (by omega))
   clear hB1 hl2 H0 H1 H2 HB
   go_wp2_with (first | (refine wpList_store_row (by rfl) 95 (.tmp 3) (.tmp 13) (by rfl) w.heap.size (fA (mP x x)) (by rfl) (by rfl) 95 _ K0.out (fA_size _) (fA_old _ _) (fA_all _) ?_))
   refine ⟨⟨j - 1, i + 1, by omega, by go_num, ?_, (setRow_other _ _ _ _ (by omega)).trans K1.out, (setRow_other _ _ _ _ (by omega)).trans K2.out, below_setRow KB.out (Nat.le_refl _) _⟩, by simp [intOf]; omega⟩
   show _ = _
   rw [sqN_succ, ← HX.out]
   exact setRow_heap _ _ _ _ _ _ K0.out
  ·
   obtain rfl : j = 0 := by omega
   have bj : ((0 : Nat) : Int) ≤ 0 := by omega
   obtain rfl : i = k := by omega
   go_wp2_with (first
    | (refine wpList_load_row (by rfl) 95 (.tmp 3) (by rfl) w.heap.size (by rfl) 95 (fA x) (0, 0) _ H0.out underF rfl (fA_size _) ?_)
    | (refine wpList_load_row (by rfl) 95 (.tmp 5) (by rfl) (w.heap.size + 1) (by rfl) 95 (fA b) (0, 0) _ H1.out underF rfl (fA_size _) ?_))
   refine (mulA x b Hx.out Hb.out _).mono ?_
   rintro e W1 ⟨rfl, hB1⟩
   have K2 := hide (row_keep' H2.out hB1)
   have hl2 := lt_row H2.out
   have KB : Hid (Below w.heap.size w W1) := HB.out.trans (hB1.mono (by omega))
   clear hB1 hl2 H0 H1 H2 HB
   go_wp2_with (first | (refine wpList_store_row (by rfl) 95 (.tmp 6) (.tmp 16) (by rfl) (w.heap.size + 2) (fA (mP x b)) (by rfl) (by rfl) 95 _ K2.out (fA_size _) (fA_old _ _) (fA_all _) ?_))
   refine bodyPost_ret (v := .agg (fA (mP x b))) (results_cell_row Tryz.results108 _ _ (w.heap.size + 2) 95 _ (0, 0) _ (by rfl) (setRow_heap _ _ _ _ _ _ K2.out) underF rfl (fA_size _)) rfl ⟨by rw [HX.out], below_setRow KB.out (by omega) _⟩
def onesN (a : Nat) : Nat → Nat
 | 0 => 1
 | n + 1 => mP (sqN 1 (onesN a n)) a
theorem onesN_lt (a n : Nat) : onesN a n < P := by
 cases n with
 | zero => exact (by decide : 1 < P)
 | succ n => exact mP_lt _ _
set_option maxRecDepth 100000 in
set_option maxHeartbeats 400000 in
theorem onesA (a k : Nat) (ha : a < P) (hk : k ≤ 1000) (w : World) :
  Calls Tryz.prog 107 #[.agg (fA a), .int .i64 k] w fun e w' => e = .returned (.agg (fA (onesN a k))) ∧ Below w.heap.size w w' := by
 have hz := zeroFA
 have Ha := hide ha
 clear ha
 go_enter Tryz.func107, Tryz.ntmps107
 go_wp2_with fail
 refine (smallA 1 (by decide) _).mono ?_
 rintro e W1 ⟨rfl, hB1⟩
 have A0 := hide (row_keep' (at2_0 w (.cells (fA a) 95) (.cells (fA 0) 95)) hB1)
 have A1 := hide (row_keep' (at2_1 w (.cells (fA a) 95) (.cells (fA 0) 95)) hB1)
 have AB : Hid (Below w.heap.size w W1) := (by go_grown : Below w.heap.size w _).trans (hB1.mono (by simp; omega))
 clear hB1
 go_wp2_with (first | (refine wpList_store_row (by rfl) 95 (.tmp 5) (.tmp 6) (by rfl) W1.heap.size (fA 1) (by rfl) (by rfl) 95 _ (heap_alloc_new _ _) (fA_size _) (fA_old _ _) (fA_all _) ?_))
 obtain ⟨q, hq⟩ : ∃ q, q = W1.heap.size := ⟨_, rfl⟩
 obtain ⟨W2, hW2⟩ : ∃ W2, W2 = (W1.alloc (.cells (fA 0) 95)).setRow W1.heap.size (fA 1) := ⟨_, rfl⟩
 have hq1 : w.heap.size + 1 < q := by rw [hq]; exact lt_row A1.out
 have B0 : Hid (W2.heap[w.heap.size]? = some (.cells (fA a) 95 (0, 0))) := by
  rw [hW2]; exact (setRow_other _ _ _ _ (by omega)).trans ((heap_alloc_old _ _ (by omega)).trans A0.out)
 have B1 : Hid (W2.heap[w.heap.size + 1]? = some (.cells (fA 0) 95 (0, 0))) := by
  rw [hW2]; exact (setRow_other _ _ _ _ (by omega)).trans ((heap_alloc_old _ _ (by omega)).trans A1.out)
 have B2 : Hid (W2.heap[q]? = some (.cells (fA 1) 95 (0, 0))) := by
  rw [hW2, hq]; exact setRow_heap _ _ _ _ _ _ (heap_alloc_new _ _)
 have BB : Hid (Below w.heap.size w W2) := by
  rw [hW2]; exact below_setRow (AB.out.alloc AB.out.size _) (by omega) _
 rw [put_none', ← hW2, ← hq]
 clear hW2 hq A0 A1 AB
 go_loopw [1] (fun sV wr => ∃ (j i : Nat), i + j = k ∧ sV = .int .i64 j ∧ Hid (wr.heap[w.heap.size]? = some (.cells (fA a) 95 (0, 0))) ∧ Hid (wr.heap[w.heap.size + 1]? = some (.cells (fA 0) 95 (0, 0))) ∧ Hid (wr.heap[q]? = some (.cells (fA (onesN a i)) 95 (0, 0))) ∧ Hid (Below w.heap.size w wr)) (fun s _ => (intOf s).toNat)
 case atStart => exact ⟨k, 0, by omega, rfl, B0, B1, B2, BB⟩
 case round =>
  clear B0 B1 B2 BB hz
  obtain ⟨j, i, hij, rfl, H0, H1, H2, HB⟩ := hrel
  obtain ⟨x, HX⟩ : ∃ x, Hid (x = onesN a i) := ⟨_, rfl⟩
  have Hx : Hid (x < P) := by rw [HX.out]; exact onesN_lt a i
  rw [← HX.out] at H2
  by_cases hj : 0 < j
  ·
   have bj : (0 : Int) < (j : Int) := by omega
   go_wp2_with (first
    | (refine wpList_load_row (by rfl) 95 (.tmp 5) (by rfl) q (by rfl) 95 (fA x) (0, 0) _ H2.out underF rfl (fA_size _) ?_)
    | (refine wpList_load_row (by rfl) 95 (.tmp 2) (by rfl) w.heap.size (by rfl) 95 (fA a) (0, 0) _ H0.out underF rfl (fA_size _) ?_))
   refine (powerA x 1 a Hx.out Ha.out (by decide) _).mono ?_
   rintro e W1 ⟨rfl, hB1⟩
   have K0 := hide (row_keep' H0.out hB1)
   have K1 := hide (row_keep' H1.out hB1)
   have K2 := hide (row_keep' H2.out hB1)
   have hl2 := lt_row H1.out
   have KB : Hid (Below w.heap.size w W1) := HB.out.trans (hB1.mono (by omega))
   clear hB1 hl2 H0 H1 H2 HB
   go_wp2_with (first | (refine wpList_store_row (by rfl) 95 (.tmp 5) (.tmp 13) (by rfl) q (fA (mP (sqN 1 x) a)) (by rfl) (by rfl) 95 _ K2.out (fA_size _) (fA_old _ _) (fA_all _) ?_))
   refine ⟨⟨j - 1, i + 1, by omega, by go_num, (setRow_other _ _ _ _ (by omega)).trans K0.out, (setRow_other _ _ _ _ (by omega)).trans K1.out, ?_, below_setRow KB.out (by omega) _⟩, by simp [intOf]; omega⟩
   show _ = some (Obj.cells (fA (mP (sqN 1 (onesN a i)) a)) _ _)
   rw [← HX.out]
   exact setRow_heap _ _ _ _ _ _ K2.out
  ·
   obtain rfl : j = 0 := by omega
   have bj : ((0 : Nat) : Int) ≤ 0 := by omega
   obtain rfl : i = k := by omega
   go_wp2_with (first
    | (refine wpList_load_row (by rfl) 95 (.tmp 5) (by rfl) q (by rfl) 95 (fA x) (0, 0) _ H2.out underF rfl (fA_size _) ?_)
    | (refine wpList_store_row (by rfl) 95 (.tmp 4) (.tmp 14) (by rfl) (w.heap.size + 1) (fA x) (by rfl) (by rfl) 95 _ H1.out (fA_size _) (fA_old _ _) (fA_all _) ?_))
   refine bodyPost_ret (v := .agg (fA x)) (results_cell_row Tryz.results107 _ _ (w.heap.size + 1) 95 _ (0, 0) _ (by rfl) (setRow_heap _ _ _ _ _ _ H1.out) underF rfl (fA_size _)) rfl ⟨by rw [HX.out], below_setRow HB.out (by omega) _⟩
end
section
attribute [local irreducible] fA
def invD (a : Nat) : Nat := mP (sqN 1 (mP (sqN 2 (mP (sqN 2 (onesN a 250)) a)) a)) a
theorem invD_lt (a : Nat) : invD a < P := mP_lt _ _
set_option maxRecDepth 100000 in
set_option maxHeartbeats 400000 in
theorem inverseA (a : Nat) (ha : a < P) (w : World) :
  Calls Tryz.prog 66 #[.agg (fA a)] w fun e w' => e = .returned (.agg (fA (invD a))) ∧ Below w.heap.size w w' := by
 have hz := zeroFA
 have Ha := hide ha
 clear ha
 go_enter Tryz.func66, Tryz.ntmps66
 go_upto_region 1 with fail
 obtain ⟨W0, hW0⟩ : ∃ W, W = (w.alloc (.cells (fA a) 95)).alloc (.cells (fA 0) 95) := ⟨_, rfl⟩
 have R0 : Hid (W0.heap[w.heap.size]? = some (.cells (fA a) 95 (0, 0))) := by rw [hW0]; exact at2_0 _ _ _
 have R1 : Hid (W0.heap[w.heap.size + 1]? = some (.cells (fA 0) 95 (0, 0))) := by rw [hW0]; exact at2_1 _ _ _
 have BL : Hid (Below w.heap.size w W0) := by rw [hW0]; show Below _ _ _; go_grown
 rw [← hW0]
 clear hW0
 go_wp2_with (first | (refine wpList_load_row (by rfl) 95 (.tmp 1) (by rfl) (w.heap.size) (by rfl) 95 (fA a) (0, 0) _ R0.out underF rfl (fA_size _) ?_))
 refine (onesA a 250 Ha.out (by decide) _).mono ?_
 rintro e W1 ⟨rfl, hB1⟩
 have R0 := hide (row_keep' R0.out hB1)
 have R1 := hide (row_keep' R1.out hB1)
 have BL : Hid (Below w.heap.size w W1) := BL.out.trans (hB1.mono BL.out.size)
 clear hB1
 obtain ⟨x1, Ex1⟩ : ∃ x, Hid (x = onesN a 250) := ⟨_, rfl⟩
 have Hx1 : Hid (x1 < P) := by rw [Ex1.out]; exact onesN_lt _ _
 rw [← Ex1.out]
 go_upto_region 2 with (first | (refine wpList_store_row (by rfl) 95 (.tmp 3) (.tmp 5) (by rfl) W1.heap.size (fA x1) (by rfl) (by rfl) 95 _ (heap_alloc_new _ _) (fA_size _) (fA_old _ _) (fA_all _) ?_))
 obtain ⟨q, hq⟩ : ∃ q, q = W1.heap.size := ⟨_, rfl⟩
 obtain ⟨W2, hW2⟩ : ∃ W, W = (W1.alloc (.cells (fA 0) 95)).setRow W1.heap.size (fA x1) := ⟨_, rfl⟩
 have lR0q : w.heap.size < q := by rw [hq]; exact lt_row R0.out
 have lR1q : w.heap.size + 1 < q := by rw [hq]; exact lt_row R1.out
 have R0' : Hid (W2.heap[w.heap.size]? = some (.cells (fA a) 95 (0, 0))) := by rw [hW2]; exact (setRow_other _ _ _ _ (by omega)).trans ((heap_alloc_old _ _ (by omega)).trans R0.out)
 have R1' : Hid (W2.heap[w.heap.size + 1]? = some (.cells (fA 0) 95 (0, 0))) := by rw [hW2]; exact (setRow_other _ _ _ _ (by omega)).trans ((heap_alloc_old _ _ (by omega)).trans R1.out)
 have R2 : Hid (W2.heap[q]? = some (.cells (fA x1) 95 (0, 0))) := by rw [hW2, hq]; exact setRow_heap _ _ _ _ _ _ (heap_alloc_new _ _)
 have BL' : Hid (Below w.heap.size w W2) := by rw [hW2]; exact below_setRow (BL.out.alloc BL.out.size _) BL.out.size _
 rw [← hW2, ← hq]
 clear hW2 hq BL R0 R1
 have R0 := R0'
 have R1 := R1'
 have BL := BL'
 clear R0' R1' BL'
 clear hz
 go_wp2_with (first | (refine wpList_load_row (by rfl) 95 (.tmp 3) (by rfl) (q) (by rfl) 95 (fA x1) (0, 0) _ R2.out underF rfl (fA_size _) ?_) | (refine wpList_load_row (by rfl) 95 (.tmp 1) (by rfl) (w.heap.size) (by rfl) 95 (fA a) (0, 0) _ R0.out underF rfl (fA_size _) ?_))
 refine (powerA x1 2 a Hx1.out Ha.out (by decide) _).mono ?_
 rintro e W3 ⟨rfl, hB3⟩
 have R0 := hide (row_keep' R0.out hB3)
 have R1 := hide (row_keep' R1.out hB3)
 have R2 := hide (row_keep' R2.out hB3)
 have BL : Hid (Below w.heap.size w W3) := BL.out.trans (hB3.mono BL.out.size)
 clear hB3
 obtain ⟨x2, Ex2⟩ : ∃ x, Hid (x = mP (sqN 2 x1) a) := ⟨_, rfl⟩
 have Hx2 : Hid (x2 < P) := by rw [Ex2.out]; exact mP_lt _ _
 rw [← Ex2.out]
 go_upto_region 3 with (first | (refine wpList_store_row (by rfl) 95 (.tmp 3) (.tmp 8) (by rfl) (q) (fA x2) (by rfl) (by rfl) 95 _ R2.out (fA_size _) (fA_old _ _) (fA_all _) ?_))
 obtain ⟨W4, hW4⟩ : ∃ W, W = W3.setRow (q) (fA x2) := ⟨_, rfl⟩
 have R0' : Hid (W4.heap[w.heap.size]? = some (.cells (fA a) 95 (0, 0))) := by rw [hW4]; exact (setRow_other _ _ _ _ (by omega)).trans R0.out
 have R1' : Hid (W4.heap[w.heap.size + 1]? = some (.cells (fA 0) 95 (0, 0))) := by rw [hW4]; exact (setRow_other _ _ _ _ (by omega)).trans R1.out
 have R2' : Hid (W4.heap[q]? = some (.cells (fA x2) 95 (0, 0))) := by rw [hW4]; exact setRow_heap _ _ _ _ _ _ R2.out
 have BL' : Hid (Below w.heap.size w W4) := by rw [hW4]; exact below_setRow BL.out (by omega) _
 rw [← hW4]
 clear hW4 BL R0 R1 R2
 have R0 := R0'
 have R1 := R1'
 have R2 := R2'
 have BL := BL'
 clear R0' R1' R2' BL'
 go_wp2_with (first | (refine wpList_load_row (by rfl) 95 (.tmp 3) (by rfl) (q) (by rfl) 95 (fA x2) (0, 0) _ R2.out underF rfl (fA_size _) ?_) | (refine wpList_load_row (by rfl) 95 (.tmp 1) (by rfl) (w.heap.size) (by rfl) 95 (fA a) (0, 0) _ R0.out underF rfl (fA_size _) ?_))
 refine (powerA x2 2 a Hx2.out Ha.out (by decide) _).mono ?_
 rintro e W5 ⟨rfl, hB5⟩
 have R0 := hide (row_keep' R0.out hB5)
 have R1 := hide (row_keep' R1.out hB5)
 have R2 := hide (row_keep' R2.out hB5)
 have BL : Hid (Below w.heap.size w W5) := BL.out.trans (hB5.mono BL.out.size)
 clear hB5
 obtain ⟨x3, Ex3⟩ : ∃ x, Hid (x = mP (sqN 2 x2) a) := ⟨_, rfl⟩
 have Hx3 : Hid (x3 < P) := by rw [Ex3.out]; exact mP_lt _ _
 rw [← Ex3.out]
 go_upto_region 4 with (first | (refine wpList_store_row (by rfl) 95 (.tmp 3) (.tmp 11) (by rfl) (q) (fA x3) (by rfl) (by rfl) 95 _ R2.out (fA_size _) (fA_old _ _) (fA_all _) ?_))
 obtain ⟨W6, hW6⟩ : ∃ W, W = W5.setRow (q) (fA x3) := ⟨_, rfl⟩
 have R0' : Hid (W6.heap[w.heap.size]? = some (.cells (fA a) 95 (0, 0))) := by rw [hW6]; exact (setRow_other _ _ _ _ (by omega)).trans R0.out
 have R1' : Hid (W6.heap[w.heap.size + 1]? = some (.cells (fA 0) 95 (0, 0))) := by rw [hW6]; exact (setRow_other _ _ _ _ (by omega)).trans R1.out
 have R2' : Hid (W6.heap[q]? = some (.cells (fA x3) 95 (0, 0))) := by rw [hW6]; exact setRow_heap _ _ _ _ _ _ R2.out
 have BL' : Hid (Below w.heap.size w W6) := by rw [hW6]; exact below_setRow BL.out (by omega) _
 rw [← hW6]
 clear hW6 BL R0 R1 R2
 have R0 := R0'
 have R1 := R1'
 have R2 := R2'
 have BL := BL'
 clear R0' R1' R2' BL'
 go_wp2_with (first | (refine wpList_load_row (by rfl) 95 (.tmp 3) (by rfl) (q) (by rfl) 95 (fA x3) (0, 0) _ R2.out underF rfl (fA_size _) ?_) | (refine wpList_load_row (by rfl) 95 (.tmp 1) (by rfl) (w.heap.size) (by rfl) 95 (fA a) (0, 0) _ R0.out underF rfl (fA_size _) ?_))
 refine (powerA x3 1 a Hx3.out Ha.out (by decide) _).mono ?_
 rintro e W7 ⟨rfl, hB7⟩
 have R0 := hide (row_keep' R0.out hB7)
 have R1 := hide (row_keep' R1.out hB7)
 have R2 := hide (row_keep' R2.out hB7)
 have BL : Hid (Below w.heap.size w W7) := BL.out.trans (hB7.mono BL.out.size)
 clear hB7
 obtain ⟨x4, Ex4⟩ : ∃ x, Hid (x = mP (sqN 1 x3) a) := ⟨_, rfl⟩
 have Hx4 : Hid (x4 < P) := by rw [Ex4.out]; exact mP_lt _ _
 rw [← Ex4.out]
 go_wp2_with (first | (refine wpList_store_row (by rfl) 95 (.tmp 2) (.tmp 14) (by rfl) (w.heap.size + 1) (fA x4) (by rfl) (by rfl) 95 _ R1.out (fA_size _) (fA_old _ _) (fA_all _) ?_))
 refine bodyPost_ret (v := .agg (fA x4)) (results_cell_row Tryz.results66 _ _ (w.heap.size + 1) 95 _ (0, 0) _ (by rfl) (setRow_heap _ _ _ _ _ _ R1.out) underF rfl (fA_size _)) rfl ⟨by rw [Ex4.out, Ex3.out, Ex2.out, Ex1.out]; rfl, below_setRow BL.out (by omega) _⟩
def m1D : Nat := mP (sqN 1 (mP (sqN 2 (onesN 2 250)) 2)) 2
theorem two_lt : 2 < P := by decide
set_option maxRecDepth 100000 in
set_option maxHeartbeats 400000 in
theorem minus1A (w : World) :
  Calls Tryz.prog 148 #[] w fun e w' => e = .returned (.agg (fA m1D)) ∧ Below w.heap.size w w' := by
 have hz := zeroFA
 go_enter Tryz.func148, Tryz.ntmps148
 go_upto_region 1 with fail
 obtain ⟨W0, hW0⟩ : ∃ W, W = w.alloc (.cells (fA 0) 95) := ⟨_, rfl⟩
 have R1 : Hid (W0.heap[w.heap.size]? = some (.cells (fA 0) 95 (0, 0))) := by rw [hW0]; exact heap_alloc_new _ _
 have BL : Hid (Below w.heap.size w W0) := by rw [hW0]; show Below _ _ _; go_grown
 rw [← hW0]
 clear hW0
 go_wp2_with fail
 refine (smallA 2 (by decide) _).mono ?_
 rintro e W1 ⟨rfl, hB1⟩
 have R1 := hide (row_keep' R1.out hB1)
 have BL : Hid (Below w.heap.size w W1) := BL.out.trans (hB1.mono BL.out.size)
 clear hB1
 go_upto_region 2 with (first | (refine wpList_store_row (by rfl) 95 (.tmp 1) (.tmp 3) (by rfl) W1.heap.size (fA 2) (by rfl) (by rfl) 95 _ (heap_alloc_new _ _) (fA_size _) (fA_old _ _) (fA_all _) ?_))
 obtain ⟨q, hq⟩ : ∃ q, q = W1.heap.size := ⟨_, rfl⟩
 obtain ⟨W2, hW2⟩ : ∃ W, W = (W1.alloc (.cells (fA 0) 95)).setRow W1.heap.size (fA 2) := ⟨_, rfl⟩
 have lR1q : w.heap.size < q := by rw [hq]; exact lt_row R1.out
 have R1' : Hid (W2.heap[w.heap.size]? = some (.cells (fA 0) 95 (0, 0))) := by rw [hW2]; exact (setRow_other _ _ _ _ (by omega)).trans ((heap_alloc_old _ _ (by omega)).trans R1.out)
 have R2 : Hid (W2.heap[q]? = some (.cells (fA 2) 95 (0, 0))) := by rw [hW2, hq]; exact setRow_heap _ _ _ _ _ _ (heap_alloc_new _ _)
 have BL' : Hid (Below w.heap.size w W2) := by rw [hW2]; exact below_setRow (BL.out.alloc BL.out.size _) BL.out.size _
 rw [← hW2, ← hq]
 clear hW2 hq BL R1
 have R1 := R1'
 have BL := BL'
 clear R1' BL'
 go_wp2_with (first | (refine wpList_load_row (by rfl) 95 (.tmp 1) (by rfl) (q) (by rfl) 95 (fA 2) (0, 0) _ R2.out underF rfl (fA_size _) ?_))
 refine (onesA 2 250 two_lt (by decide) _).mono ?_
 rintro e W3 ⟨rfl, hB3⟩
 have R1 := hide (row_keep' R1.out hB3)
 have R2 := hide (row_keep' R2.out hB3)
 have BL : Hid (Below w.heap.size w W3) := BL.out.trans (hB3.mono BL.out.size)
 clear hB3
 obtain ⟨x1, Ex1⟩ : ∃ x, Hid (x = onesN 2 250) := ⟨_, rfl⟩
 have Hx1 : Hid (x1 < P) := by rw [Ex1.out]; exact onesN_lt _ _
 rw [← Ex1.out]
 go_upto_region 3 with (first | (refine wpList_store_row (by rfl) 95 (.tmp 2) (.tmp 5) (by rfl) W3.heap.size (fA x1) (by rfl) (by rfl) 95 _ (heap_alloc_new _ _) (fA_size _) (fA_old _ _) (fA_all _) ?_))
 obtain ⟨r, hr⟩ : ∃ q, q = W3.heap.size := ⟨_, rfl⟩
 obtain ⟨W4, hW4⟩ : ∃ W, W = (W3.alloc (.cells (fA 0) 95)).setRow W3.heap.size (fA x1) := ⟨_, rfl⟩
 have lR1r : w.heap.size < r := by rw [hr]; exact lt_row R1.out
 have lR2r : q < r := by rw [hr]; exact lt_row R2.out
 have R1' : Hid (W4.heap[w.heap.size]? = some (.cells (fA 0) 95 (0, 0))) := by rw [hW4]; exact (setRow_other _ _ _ _ (by omega)).trans ((heap_alloc_old _ _ (by omega)).trans R1.out)
 have R2' : Hid (W4.heap[q]? = some (.cells (fA 2) 95 (0, 0))) := by rw [hW4]; exact (setRow_other _ _ _ _ (by omega)).trans ((heap_alloc_old _ _ (by omega)).trans R2.out)
 have R3 : Hid (W4.heap[r]? = some (.cells (fA x1) 95 (0, 0))) := by rw [hW4, hr]; exact setRow_heap _ _ _ _ _ _ (heap_alloc_new _ _)
 have BL' : Hid (Below w.heap.size w W4) := by rw [hW4]; exact below_setRow (BL.out.alloc BL.out.size _) BL.out.size _
 rw [← hW4, ← hr]
 clear hW4 hr BL R1 R2
 have R1 := R1'
 have R2 := R2'
 have BL := BL'
 clear R1' R2' BL'
 clear hz
 go_wp2_with (first | (refine wpList_load_row (by rfl) 95 (.tmp 2) (by rfl) (r) (by rfl) 95 (fA x1) (0, 0) _ R3.out underF rfl (fA_size _) ?_) | (refine wpList_load_row (by rfl) 95 (.tmp 1) (by rfl) (q) (by rfl) 95 (fA 2) (0, 0) _ R2.out underF rfl (fA_size _) ?_))
 refine (powerA x1 2 2 Hx1.out two_lt (by decide) _).mono ?_
 rintro e W5 ⟨rfl, hB5⟩
 have R1 := hide (row_keep' R1.out hB5)
 have R2 := hide (row_keep' R2.out hB5)
 have R3 := hide (row_keep' R3.out hB5)
 have BL : Hid (Below w.heap.size w W5) := BL.out.trans (hB5.mono BL.out.size)
 clear hB5
 obtain ⟨x2, Ex2⟩ : ∃ x, Hid (x = mP (sqN 2 x1) 2) := ⟨_, rfl⟩
 have Hx2 : Hid (x2 < P) := by rw [Ex2.out]; exact mP_lt _ _
 rw [← Ex2.out]
 go_upto_region 4 with (first | (refine wpList_store_row (by rfl) 95 (.tmp 2) (.tmp 8) (by rfl) (r) (fA x2) (by rfl) (by rfl) 95 _ R3.out (fA_size _) (fA_old _ _) (fA_all _) ?_))
 obtain ⟨W6, hW6⟩ : ∃ W, W = W5.setRow (r) (fA x2) := ⟨_, rfl⟩
 have R1' : Hid (W6.heap[w.heap.size]? = some (.cells (fA 0) 95 (0, 0))) := by rw [hW6]; exact (setRow_other _ _ _ _ (by omega)).trans R1.out
 have R2' : Hid (W6.heap[q]? = some (.cells (fA 2) 95 (0, 0))) := by rw [hW6]; exact (setRow_other _ _ _ _ (by omega)).trans R2.out
 have R3' : Hid (W6.heap[r]? = some (.cells (fA x2) 95 (0, 0))) := by rw [hW6]; exact setRow_heap _ _ _ _ _ _ R3.out
 have BL' : Hid (Below w.heap.size w W6) := by rw [hW6]; exact below_setRow BL.out (by omega) _
 rw [← hW6]
 clear hW6 BL R1 R2 R3
 have R1 := R1'
 have R2 := R2'
 have R3 := R3'
 have BL := BL'
 clear R1' R2' R3' BL'
 go_wp2_with (first | (refine wpList_load_row (by rfl) 95 (.tmp 2) (by rfl) (r) (by rfl) 95 (fA x2) (0, 0) _ R3.out underF rfl (fA_size _) ?_) | (refine wpList_load_row (by rfl) 95 (.tmp 1) (by rfl) (q) (by rfl) 95 (fA 2) (0, 0) _ R2.out underF rfl (fA_size _) ?_))
 refine (powerA x2 1 2 Hx2.out two_lt (by decide) _).mono ?_
 rintro e W7 ⟨rfl, hB7⟩
 have R1 := hide (row_keep' R1.out hB7)
 have R2 := hide (row_keep' R2.out hB7)
 have R3 := hide (row_keep' R3.out hB7)
 have BL : Hid (Below w.heap.size w W7) := BL.out.trans (hB7.mono BL.out.size)
 clear hB7
 obtain ⟨x3, Ex3⟩ : ∃ x, Hid (x = mP (sqN 1 x2) 2) := ⟨_, rfl⟩
 have Hx3 : Hid (x3 < P) := by rw [Ex3.out]; exact mP_lt _ _
 rw [← Ex3.out]
 go_wp2_with (first | (refine wpList_store_row (by rfl) 95 (.tmp 0) (.tmp 11) (by rfl) (w.heap.size) (fA x3) (by rfl) (by rfl) 95 _ R1.out (fA_size _) (fA_old _ _) (fA_all _) ?_))
 refine bodyPost_ret (v := .agg (fA x3)) (results_cell_row Tryz.results148 _ _ (w.heap.size) 95 _ (0, 0) _ (by rfl) (setRow_heap _ _ _ _ _ _ R1.out) underF rfl (fA_size _)) rfl ⟨by rw [Ex3.out, Ex2.out, Ex1.out]; rfl, below_setRow BL.out (by omega) _⟩
def crvD : Nat := mP (sP 0 121665) (invD 121666)
theorem k65 : 121665 < P := by decide
theorem k66 : 121666 < P := by decide
theorem zero_lt : 0 < P := by decide
set_option maxRecDepth 100000 in
set_option maxHeartbeats 400000 in
theorem curveA (w : World) :
  Calls Tryz.prog 33 #[] w fun e w' => e = .returned (.agg (fA crvD)) ∧ Below w.heap.size w w' := by
 have hz := zeroFA
 go_enter Tryz.func33, Tryz.ntmps33
 go_upto_region 1 with fail
 obtain ⟨W0, hW0⟩ : ∃ W, W = w.alloc (.cells (fA 0) 95) := ⟨_, rfl⟩
 have R1 : Hid (W0.heap[w.heap.size]? = some (.cells (fA 0) 95 (0, 0))) := by rw [hW0]; exact heap_alloc_new _ _
 have BL : Hid (Below w.heap.size w W0) := by rw [hW0]; show Below _ _ _; go_grown
 rw [← hW0]
 clear hW0
 go_wp2_with fail
 refine (smallA 121665 (by decide) _).mono ?_
 rintro e W1 ⟨rfl, hB1⟩
 have R1 := hide (row_keep' R1.out hB1)
 have BL : Hid (Below w.heap.size w W1) := BL.out.trans (hB1.mono BL.out.size)
 clear hB1
 go_wp2_with fail
 refine (subA' 0 121665 zero_lt k65 _).mono ?_
 rintro e W2 ⟨rfl, hB2⟩
 have R1 := hide (row_keep' R1.out hB2)
 have BL : Hid (Below w.heap.size w W2) := BL.out.trans (hB2.mono BL.out.size)
 clear hB2
 obtain ⟨x1, Ex1⟩ : ∃ x, Hid (x = sP 0 121665) := ⟨_, rfl⟩
 have Hx1 : Hid (x1 < P) := by rw [Ex1.out]; exact sP_lt _ _
 rw [← Ex1.out]
 go_wp2_with fail
 refine (smallA 121666 (by decide) _).mono ?_
 rintro e W3 ⟨rfl, hB3⟩
 have R1 := hide (row_keep' R1.out hB3)
 have BL : Hid (Below w.heap.size w W3) := BL.out.trans (hB3.mono BL.out.size)
 clear hB3
 go_wp2_with fail
 refine (inverseA 121666 k66 _).mono ?_
 rintro e W4 ⟨rfl, hB4⟩
 have R1 := hide (row_keep' R1.out hB4)
 have BL : Hid (Below w.heap.size w W4) := BL.out.trans (hB4.mono BL.out.size)
 clear hB4
 obtain ⟨x2, Ex2⟩ : ∃ x, Hid (x = invD 121666) := ⟨_, rfl⟩
 have Hx2 : Hid (x2 < P) := by rw [Ex2.out]; exact invD_lt _
 rw [← Ex2.out]
 go_wp2_with fail
 refine (mulA x1 x2 Hx1.out Hx2.out _).mono ?_
 rintro e W5 ⟨rfl, hB5⟩
 have R1 := hide (row_keep' R1.out hB5)
 have BL : Hid (Below w.heap.size w W5) := BL.out.trans (hB5.mono BL.out.size)
 clear hB5
 obtain ⟨x3, Ex3⟩ : ∃ x, Hid (x = mP x1 x2) := ⟨_, rfl⟩
 have Hx3 : Hid (x3 < P) := by rw [Ex3.out]; exact mP_lt _ _
 rw [← Ex3.out]
 go_wp2_with (first | (refine wpList_store_row (by rfl) 95 (.tmp 0) (.tmp 6) (by rfl) (w.heap.size) (fA x3) (by rfl) (by rfl) 95 _ R1.out (fA_size _) (fA_old _ _) (fA_all _) ?_))
 refine bodyPost_ret (v := .agg (fA x3)) (results_cell_row Tryz.results33 _ _ (w.heap.size) 95 _ (0, 0) _ (by rfl) (setRow_heap _ _ _ _ _ _ R1.out) underF rfl (fA_size _)) rfl ⟨by rw [Ex3.out, Ex2.out, Ex1.out]; rfl, below_setRow BL.out (by omega) _⟩
end
end Go.Proofs.YtccgfabojbjmjaaGreatDoor
