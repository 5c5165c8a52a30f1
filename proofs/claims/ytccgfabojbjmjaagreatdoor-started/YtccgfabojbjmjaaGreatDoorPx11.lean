import Derived.Test.YtccgfabojbjmjaaGreatDoorPx10
namespace Go.Proofs.YtccgfabojbjmjaaGreatDoor
open Go.RowKit
def rmN : Nat := 19681161376707505956807079304988542015446066515923890162744021073123829784752
def cbN (v : Nat) : Nat := mP (mP v v) v
def svN (v : Nat) : Nat := mP (mP (cbN v) (cbN v)) v
def rtN (u v : Nat) : Nat := mP (mP u (cbN v)) (rpN (mP u (svN v)))
def sqrN (u v : Nat) : Nat := mP (mP (rtN u v) (rtN u v)) v
def rootV (u v : Nat) : Nat := if sqrN u v = u then rtN u v else if sqrN u v = sP 0 u then mP (rtN u v) rmN else 0
def rootB (u v : Nat) : Bool := decide (sqrN u v = u ∨ sqrN u v = sP 0 u)
theorem rootV_lt (u v : Nat) : rootV u v < P := by
 unfold rootV; split
 · exact mP_lt _ _
 ·
  split
  · exact mP_lt _ _
  · exact P_pos
set_option maxRecDepth 100000 in
set_option maxHeartbeats 2000000 in
theorem feRoot (u v : Nat) (hu : u < P) (hv : v < P) (T5 : TypeId) (fr5 : Nat × Nat) (w : World) (hG : w.heap[12]? = some (.cells (num4A rmN) T5 fr5)) :
  Calls Tryz.prog 162 #[fe u, fe v] w fun e w' => e = .returned (.tuple #[fe (rootV u v), .bool (rootB u v)]) ∧ Below w.heap.size w w' := by
 have Hu := hide hu
 have Hv := hide hv
 clear hu hv
 have HG := hide hG
 have h5 : Hid (12 < w.heap.size) := lt_of_row hG
 clear hG
 go_enter Tryz.func162, Tryz.ntmps162
 go_wp2_with fail
 obtain ⟨W0, hW0⟩ : ∃ W0, W0 = (((w.alloc (.cells (num4A u) 80)).alloc (.cells (num4A v) 80)).alloc (.cells zero4 80)) := ⟨_, rfl⟩
 rw [← hW0]
 have R0 : Hid (W0.heap[w.heap.size]? = some (.cells (num4A u) 80 (0, 0))) := by rw [hW0]; exact at3_0 _ _ _ _
 have R1 : Hid (W0.heap[w.heap.size + 1]? = some (.cells (num4A v) 80 (0, 0))) := by rw [hW0]; exact at3_1 _ _ _ _
 have RZ : Hid (W0.heap[w.heap.size + 2]? = some (.cells zero4 80 (0, 0))) := by rw [hW0]; exact at3_2 _ _ _ _
 have BL0 : Hid (Below w.heap.size w W0) := by rw [hW0]; show Below _ _ _; go_grown
 have Z0 : Hid (w.heap.size + 2 < W0.heap.size) := lt_of_row RZ.out
 clear hW0
 go_upto_region 1 with fail
 go_cut [6] from 10 to 13 (fun s wx => ∃ g, s = .pointer (some ⟨g, 0, none⟩) ∧ Hid (W0.heap.size ≤ g) ∧ Hid (wx.heap[g]? = some (.cells (num4A (mP (mP v v) v)) 80 (0, 0))) ∧ Hid (Below W0.heap.size W0 wx))
 case first =>
  obtain ⟨c_p10, c_p11, c_p12, c_p13⟩ := c4_of R1.out
  go_region_held3 (fun w' => C4 w' (w.heap.size + 1) (v))
   (first | exact c4_set (c4_alloc (c4_below (c4_of R1.out) K0_1.out (lt_of_row R1.out)) _) (by have h0 := lt_of_row R1.out; have h1 := K0_0.out.size; have h2 := K0_1.out.size; have h9 := Z0.out; omega) | exact c4_set (c4_below (c4_of R1.out) K0_1.out (lt_of_row R1.out)) (by have h0 := lt_of_row R1.out; have h1 := K0_0.out.size; have h2 := K0_1.out.size; have h9 := Z0.out; omega) | exact (c4_below (c4_of R1.out) K0_1.out (lt_of_row R1.out)) | exact c4_alloc (c4_below (c4_of R1.out) K0_1.out (lt_of_row R1.out)) _ | exact (c4_below (c4_of R1.out) K0_0.out (lt_of_row R1.out)) | exact c4_alloc (c4_below (c4_of R1.out) K0_0.out (lt_of_row R1.out)) _ | exact c4_of R1.out | exact c4_alloc (w := W0.drew) (c4_of R1.out) _ | go_keep)
   (first
    | (go_at_call 161; (fail_if_success (have zz := K0_0)); refine (feSquare v Hv.out _).mono ?_; rintro e V0_0 ⟨rfl, HB⟩; have K0_0 : Hid (Below W0.heap.size W0 V0_0) := (by first | exact hide (undrew HB) | exact hide (Below.trans (Below.alloc (Below.drew (Below.refl _ _)) (Nat.le_refl _) _) (HB.mono (by simp)))); (first | (have ZZ := hide (row_keep (heap_alloc_new _ (.cells zero4 80)) HB)) | (have ZZ := hide (row_keep (w := (W0.alloc (.cells zero4 80)).drew) (heap_alloc_new W0 (.cells zero4 80)) HB)) | (have ZZ := hide (row_keep ZZ.out HB)) | skip); clear HB)
    | (go_at_call 93; (fail_if_success (have zz := K0_1)); (have zz := K0_0; clear zz); refine (feTimes (mP v v) v (mP_lt _ _) Hv.out _).mono ?_; rintro e V0_1 ⟨rfl, HB⟩; have K0_1 : Hid (Below W0.heap.size W0 V0_1) := (by first | exact hide (K0_0.out.trans (HB.mono K0_0.out.size)) | exact hide ((K0_0.out.alloc K0_0.out.size _).trans (HB.mono (by have := K0_0.out.size; simp; omega)))); (first | (have ZZ := hide (row_keep (heap_alloc_new _ (.cells zero4 80)) HB)) | (have ZZ := hide (row_keep (w := (W0.alloc (.cells zero4 80)).drew) (heap_alloc_new W0 (.cells zero4 80)) HB)) | (have ZZ := hide (row_keep ZZ.out HB)) | skip); clear HB; (first | (have hst := storeRow_run (P := Tryz.prog) (cs := num4A (mP (mP v v) v)) ZZ.out rfl (num4A_all _)) | (have hst := storeRow_run (P := Tryz.prog) (w := V0_1.alloc (.cells zero4 80)) (cs := num4A (mP (mP v v) v)) (heap_alloc_new _ _) rfl (num4A_all _))); have hs4 : (num4A (mP (mP v v) v)).size = 4 := rfl))
  all_goals (
   clear c_p10 c_p11 c_p12 c_p13
   clear hst hs4
   go_wp2_with fail
   go_meet
   case rel => first | exact ⟨_, rfl, hide (by have h1 := K0_0.out.size; have h2 := K0_1.out.size; omega), hide (setRow_heap _ _ _ _ _ _ ZZ.out), hide (below_setRow K0_1.out (by have h1 := K0_0.out.size; have h2 := K0_1.out.size; omega) _)⟩ | exact ⟨_, rfl, hide (by have h1 := K0_0.out.size; have h2 := K0_1.out.size; omega), hide (setRow_heap _ _ _ _ _ _ (heap_alloc_new _ _)), hide (below_setRow (K0_1.out.alloc K0_1.out.size _) (by have h1 := K0_0.out.size; have h2 := K0_1.out.size; omega) _)⟩)
 case rest =>
 obtain ⟨g1, rfl, G1, Q1, X1⟩ := hcut
 obtain ⟨W1, hW1⟩ : ∃ W1, W1 = wc := ⟨_, rfl⟩
 subst hW1
 have BL1 : Hid (Below w.heap.size w W1) := BL0.out.trans (X1.out.mono BL0.out.size)
 have Z1 : Hid (w.heap.size + 2 < W1.heap.size) := by show _ < _; have := Z0.out; have := X1.out.size; omega
 replace R0 := hide (row_below R0.out X1.out (lt_of_row R0.out))
 replace R1 := hide (row_below R1.out X1.out (lt_of_row R1.out))
 replace RZ := hide (row_below RZ.out X1.out Z0.out)
 have N1 : Hid (w.heap.size + 2 < g1) := by show _ < _; have := G1.out; have := Z0.out; omega
 clear X1 BL0 Z0 G1
 obtain ⟨cu, Ecu⟩ : ∃ cu, Hid (cu = cbN v) := ⟨_, rfl⟩
 have Hcu : Hid (cu < P) := by rw [Ecu.out]; exact mP_lt _ _
 have Q1n : Hid (W1.heap[g1]? = some (.cells (num4A cu) 80 (0, 0))) := by rw [Ecu.out]; exact Q1
 clear Q1; have Q1 := Q1n; clear Q1n
 go_upto_region 2 with fail
 go_cut [7] from 14 to 17 (fun s wx => ∃ g, s = .pointer (some ⟨g, 0, none⟩) ∧ Hid (W1.heap.size ≤ g) ∧ Hid (wx.heap[g]? = some (.cells (num4A (mP (mP cu cu) v)) 80 (0, 0))) ∧ Hid (Below W1.heap.size W1 wx))
 case first =>
  obtain ⟨c_cu0, c_cu1, c_cu2, c_cu3⟩ := c4_of Q1.out
  obtain ⟨c_p10, c_p11, c_p12, c_p13⟩ := c4_of R1.out
  go_region_held3 (fun w' => C4 w' (g1) (cu) ∧ C4 w' (w.heap.size + 1) (v))
   (first | exact ⟨c4_set (c4_alloc (c4_below (c4_of Q1.out) K1_1.out (lt_of_row Q1.out)) _) (by have h0 := lt_of_row Q1.out; have h1 := K1_0.out.size; have h2 := K1_1.out.size; have h9 := Z1.out; have n1 := N1.out; omega), c4_set (c4_alloc (c4_below (c4_of R1.out) K1_1.out (lt_of_row R1.out)) _) (by have h0 := lt_of_row R1.out; have h1 := K1_0.out.size; have h2 := K1_1.out.size; have h9 := Z1.out; have n1 := N1.out; omega)⟩ | exact ⟨c4_set (c4_below (c4_of Q1.out) K1_1.out (lt_of_row Q1.out)) (by have h0 := lt_of_row Q1.out; have h1 := K1_0.out.size; have h2 := K1_1.out.size; have h9 := Z1.out; have n1 := N1.out; omega), c4_set (c4_below (c4_of R1.out) K1_1.out (lt_of_row R1.out)) (by have h0 := lt_of_row R1.out; have h1 := K1_0.out.size; have h2 := K1_1.out.size; have h9 := Z1.out; have n1 := N1.out; omega)⟩ | exact ⟨(c4_below (c4_of Q1.out) K1_1.out (lt_of_row Q1.out)), (c4_below (c4_of R1.out) K1_1.out (lt_of_row R1.out))⟩ | exact ⟨c4_alloc (c4_below (c4_of Q1.out) K1_1.out (lt_of_row Q1.out)) _, c4_alloc (c4_below (c4_of R1.out) K1_1.out (lt_of_row R1.out)) _⟩ | exact ⟨(c4_below (c4_of Q1.out) K1_0.out (lt_of_row Q1.out)), (c4_below (c4_of R1.out) K1_0.out (lt_of_row R1.out))⟩ | exact ⟨c4_alloc (c4_below (c4_of Q1.out) K1_0.out (lt_of_row Q1.out)) _, c4_alloc (c4_below (c4_of R1.out) K1_0.out (lt_of_row R1.out)) _⟩ | exact ⟨c4_of Q1.out, c4_of R1.out⟩ | exact ⟨c4_alloc (w := W1.drew) (c4_of Q1.out) _, c4_alloc (w := W1.drew) (c4_of R1.out) _⟩ | go_keep)
   (first
    | (go_at_call 161; (fail_if_success (have zz := K1_0)); refine (feSquare cu Hcu.out _).mono ?_; rintro e V1_0 ⟨rfl, HB⟩; have K1_0 : Hid (Below W1.heap.size W1 V1_0) := (by first | exact hide (undrew HB) | exact hide (Below.trans (Below.alloc (Below.drew (Below.refl _ _)) (Nat.le_refl _) _) (HB.mono (by simp)))); (first | (have ZZ := hide (row_keep (heap_alloc_new _ (.cells zero4 80)) HB)) | (have ZZ := hide (row_keep (w := (W1.alloc (.cells zero4 80)).drew) (heap_alloc_new W1 (.cells zero4 80)) HB)) | (have ZZ := hide (row_keep ZZ.out HB)) | skip); clear HB)
    | (go_at_call 93; (fail_if_success (have zz := K1_1)); (have zz := K1_0; clear zz); refine (feTimes (mP cu cu) v (mP_lt _ _) Hv.out _).mono ?_; rintro e V1_1 ⟨rfl, HB⟩; have K1_1 : Hid (Below W1.heap.size W1 V1_1) := (by first | exact hide (K1_0.out.trans (HB.mono K1_0.out.size)) | exact hide ((K1_0.out.alloc K1_0.out.size _).trans (HB.mono (by have := K1_0.out.size; simp; omega)))); (first | (have ZZ := hide (row_keep (heap_alloc_new _ (.cells zero4 80)) HB)) | (have ZZ := hide (row_keep (w := (W1.alloc (.cells zero4 80)).drew) (heap_alloc_new W1 (.cells zero4 80)) HB)) | (have ZZ := hide (row_keep ZZ.out HB)) | skip); clear HB; (first | (have hst := storeRow_run (P := Tryz.prog) (cs := num4A (mP (mP cu cu) v)) ZZ.out rfl (num4A_all _)) | (have hst := storeRow_run (P := Tryz.prog) (w := V1_1.alloc (.cells zero4 80)) (cs := num4A (mP (mP cu cu) v)) (heap_alloc_new _ _) rfl (num4A_all _))); have hs4 : (num4A (mP (mP cu cu) v)).size = 4 := rfl))
  all_goals (
   clear c_cu0 c_cu1 c_cu2 c_cu3
   clear c_p10 c_p11 c_p12 c_p13
   clear hst hs4
   go_wp2_with fail
   go_meet
   case rel => first | exact ⟨_, rfl, hide (by have h1 := K1_0.out.size; have h2 := K1_1.out.size; omega), hide (setRow_heap _ _ _ _ _ _ ZZ.out), hide (below_setRow K1_1.out (by have h1 := K1_0.out.size; have h2 := K1_1.out.size; omega) _)⟩ | exact ⟨_, rfl, hide (by have h1 := K1_0.out.size; have h2 := K1_1.out.size; omega), hide (setRow_heap _ _ _ _ _ _ (heap_alloc_new _ _)), hide (below_setRow (K1_1.out.alloc K1_1.out.size _) (by have h1 := K1_0.out.size; have h2 := K1_1.out.size; omega) _)⟩)
 case rest =>
 obtain ⟨g2, rfl, G2, Q2, X2⟩ := hcut
 obtain ⟨W2, hW2⟩ : ∃ W2, W2 = wc := ⟨_, rfl⟩
 subst hW2
 have BL2 : Hid (Below w.heap.size w W2) := BL1.out.trans (X2.out.mono BL1.out.size)
 have Z2 : Hid (w.heap.size + 2 < W2.heap.size) := by show _ < _; have := Z1.out; have := X2.out.size; omega
 replace R0 := hide (row_below R0.out X2.out (lt_of_row R0.out))
 replace R1 := hide (row_below R1.out X2.out (lt_of_row R1.out))
 replace Q1 := hide (row_below Q1.out X2.out (lt_of_row Q1.out))
 replace RZ := hide (row_below RZ.out X2.out Z1.out)
 have N2 : Hid (w.heap.size + 2 < g2) := by show _ < _; have := G2.out; have := Z1.out; omega
 clear X2 BL1 Z1 G2
 have Esv0 := Ecu
 obtain ⟨sv, Esv⟩ : ∃ sv, Hid (sv = svN v) := ⟨_, rfl⟩
 have Hsv : Hid (sv < P) := by rw [Esv.out]; exact mP_lt _ _
 have Q2n : Hid (W2.heap[g2]? = some (.cells (num4A sv) 80 (0, 0))) := by have e := Q2.out; rw [Ecu.out] at e; rw [Esv.out]; exact e
 clear Q2; have Q2 := Q2n; clear Q2n
 go_upto_region 3 with fail
 go_cut [8] from 18 to 25 (fun s wx => ∃ g, s = .pointer (some ⟨g, 0, none⟩) ∧ Hid (W2.heap.size ≤ g) ∧ Hid (wx.heap[g]? = some (.cells (num4A (mP (mP u cu) (rpN (mP u sv)))) 80 (0, 0))) ∧ Hid (Below W2.heap.size W2 wx))
 case first =>
  obtain ⟨c_p00, c_p01, c_p02, c_p03⟩ := c4_of R0.out
  obtain ⟨c_cu0, c_cu1, c_cu2, c_cu3⟩ := c4_of Q1.out
  obtain ⟨c_sv0, c_sv1, c_sv2, c_sv3⟩ := c4_of Q2.out
  go_region_held3 (fun w' => C4 w' (w.heap.size) (u) ∧ C4 w' (g1) (cu) ∧ C4 w' (g2) (sv))
   (first | exact ⟨c4_set (c4_alloc (c4_below (c4_of R0.out) K2_3.out (lt_of_row R0.out)) _) (by have h0 := lt_of_row R0.out; have h1 := K2_0.out.size; have h2 := K2_1.out.size; have h3 := K2_2.out.size; have h4 := K2_3.out.size; have h9 := Z2.out; have n1 := N1.out; have n2 := N2.out; omega), c4_set (c4_alloc (c4_below (c4_of Q1.out) K2_3.out (lt_of_row Q1.out)) _) (by have h0 := lt_of_row Q1.out; have h1 := K2_0.out.size; have h2 := K2_1.out.size; have h3 := K2_2.out.size; have h4 := K2_3.out.size; have h9 := Z2.out; have n1 := N1.out; have n2 := N2.out; omega), c4_set (c4_alloc (c4_below (c4_of Q2.out) K2_3.out (lt_of_row Q2.out)) _) (by have h0 := lt_of_row Q2.out; have h1 := K2_0.out.size; have h2 := K2_1.out.size; have h3 := K2_2.out.size; have h4 := K2_3.out.size; have h9 := Z2.out; have n1 := N1.out; have n2 := N2.out; omega)⟩ | exact ⟨c4_set (c4_below (c4_of R0.out) K2_3.out (lt_of_row R0.out)) (by have h0 := lt_of_row R0.out; have h1 := K2_0.out.size; have h2 := K2_1.out.size; have h3 := K2_2.out.size; have h4 := K2_3.out.size; have h9 := Z2.out; have n1 := N1.out; have n2 := N2.out; omega), c4_set (c4_below (c4_of Q1.out) K2_3.out (lt_of_row Q1.out)) (by have h0 := lt_of_row Q1.out; have h1 := K2_0.out.size; have h2 := K2_1.out.size; have h3 := K2_2.out.size; have h4 := K2_3.out.size; have h9 := Z2.out; have n1 := N1.out; have n2 := N2.out; omega), c4_set (c4_below (c4_of Q2.out) K2_3.out (lt_of_row Q2.out)) (by have h0 := lt_of_row Q2.out; have h1 := K2_0.out.size; have h2 := K2_1.out.size; have h3 := K2_2.out.size; have h4 := K2_3.out.size; have h9 := Z2.out; have n1 := N1.out; have n2 := N2.out; omega)⟩ | exact ⟨(c4_below (c4_of R0.out) K2_3.out (lt_of_row R0.out)), (c4_below (c4_of Q1.out) K2_3.out (lt_of_row Q1.out)), (c4_below (c4_of Q2.out) K2_3.out (lt_of_row Q2.out))⟩ | exact ⟨c4_alloc (c4_below (c4_of R0.out) K2_3.out (lt_of_row R0.out)) _, c4_alloc (c4_below (c4_of Q1.out) K2_3.out (lt_of_row Q1.out)) _, c4_alloc (c4_below (c4_of Q2.out) K2_3.out (lt_of_row Q2.out)) _⟩ | exact ⟨(c4_below (c4_of R0.out) K2_2.out (lt_of_row R0.out)), (c4_below (c4_of Q1.out) K2_2.out (lt_of_row Q1.out)), (c4_below (c4_of Q2.out) K2_2.out (lt_of_row Q2.out))⟩ | exact ⟨c4_alloc (c4_below (c4_of R0.out) K2_2.out (lt_of_row R0.out)) _, c4_alloc (c4_below (c4_of Q1.out) K2_2.out (lt_of_row Q1.out)) _, c4_alloc (c4_below (c4_of Q2.out) K2_2.out (lt_of_row Q2.out)) _⟩ | exact ⟨(c4_below (c4_of R0.out) K2_1.out (lt_of_row R0.out)), (c4_below (c4_of Q1.out) K2_1.out (lt_of_row Q1.out)), (c4_below (c4_of Q2.out) K2_1.out (lt_of_row Q2.out))⟩ | exact ⟨c4_alloc (c4_below (c4_of R0.out) K2_1.out (lt_of_row R0.out)) _, c4_alloc (c4_below (c4_of Q1.out) K2_1.out (lt_of_row Q1.out)) _, c4_alloc (c4_below (c4_of Q2.out) K2_1.out (lt_of_row Q2.out)) _⟩ | exact ⟨(c4_below (c4_of R0.out) K2_0.out (lt_of_row R0.out)), (c4_below (c4_of Q1.out) K2_0.out (lt_of_row Q1.out)), (c4_below (c4_of Q2.out) K2_0.out (lt_of_row Q2.out))⟩ | exact ⟨c4_alloc (c4_below (c4_of R0.out) K2_0.out (lt_of_row R0.out)) _, c4_alloc (c4_below (c4_of Q1.out) K2_0.out (lt_of_row Q1.out)) _, c4_alloc (c4_below (c4_of Q2.out) K2_0.out (lt_of_row Q2.out)) _⟩ | exact ⟨c4_of R0.out, c4_of Q1.out, c4_of Q2.out⟩ | exact ⟨c4_alloc (w := W2.drew) (c4_of R0.out) _, c4_alloc (w := W2.drew) (c4_of Q1.out) _, c4_alloc (w := W2.drew) (c4_of Q2.out) _⟩ | go_keep)
   (first
    | (go_at_call 93; (fail_if_success (have zz := K2_0)); refine (feTimes u cu Hu.out Hcu.out _).mono ?_; rintro e V2_0 ⟨rfl, HB⟩; have K2_0 : Hid (Below W2.heap.size W2 V2_0) := (by first | exact hide (undrew HB) | exact hide (Below.trans (Below.alloc (Below.drew (Below.refl _ _)) (Nat.le_refl _) _) (HB.mono (by simp)))); (first | (have ZZ := hide (row_keep (heap_alloc_new _ (.cells zero4 80)) HB)) | (have ZZ := hide (row_keep (w := (W2.alloc (.cells zero4 80)).drew) (heap_alloc_new W2 (.cells zero4 80)) HB)) | (have ZZ := hide (row_keep ZZ.out HB)) | skip); clear HB)
    | (go_at_call 93; (fail_if_success (have zz := K2_1)); (have zz := K2_0; clear zz); refine (feTimes u sv Hu.out Hsv.out _).mono ?_; rintro e V2_1 ⟨rfl, HB⟩; have K2_1 : Hid (Below W2.heap.size W2 V2_1) := (by first | exact hide (K2_0.out.trans (HB.mono K2_0.out.size)) | exact hide ((K2_0.out.alloc K2_0.out.size _).trans (HB.mono (by have := K2_0.out.size; simp; omega)))); (first | (have ZZ := hide (row_keep (heap_alloc_new _ (.cells zero4 80)) HB)) | (have ZZ := hide (row_keep (w := (W2.alloc (.cells zero4 80)).drew) (heap_alloc_new W2 (.cells zero4 80)) HB)) | (have ZZ := hide (row_keep ZZ.out HB)) | skip); clear HB)
    | (go_at_call 171; (fail_if_success (have zz := K2_2)); (have zz := K2_1; clear zz); refine (feRootPower (mP u sv) (mP_lt _ _) _).mono ?_; rintro e V2_2 ⟨rfl, HB⟩; have K2_2 : Hid (Below W2.heap.size W2 V2_2) := (by first | exact hide (K2_1.out.trans (HB.mono K2_1.out.size)) | exact hide ((K2_1.out.alloc K2_1.out.size _).trans (HB.mono (by have := K2_1.out.size; simp; omega)))); (first | (have ZZ := hide (row_keep (heap_alloc_new _ (.cells zero4 80)) HB)) | (have ZZ := hide (row_keep (w := (W2.alloc (.cells zero4 80)).drew) (heap_alloc_new W2 (.cells zero4 80)) HB)) | (have ZZ := hide (row_keep ZZ.out HB)) | skip); clear HB)
    | (go_at_call 93; (fail_if_success (have zz := K2_3)); (have zz := K2_2; clear zz); refine (feTimes (mP u cu) (rpN (mP u sv)) (mP_lt _ _) (rpN_lt _) _).mono ?_; rintro e V2_3 ⟨rfl, HB⟩; have K2_3 : Hid (Below W2.heap.size W2 V2_3) := (by first | exact hide (K2_2.out.trans (HB.mono K2_2.out.size)) | exact hide ((K2_2.out.alloc K2_2.out.size _).trans (HB.mono (by have := K2_2.out.size; simp; omega)))); (first | (have ZZ := hide (row_keep (heap_alloc_new _ (.cells zero4 80)) HB)) | (have ZZ := hide (row_keep (w := (W2.alloc (.cells zero4 80)).drew) (heap_alloc_new W2 (.cells zero4 80)) HB)) | (have ZZ := hide (row_keep ZZ.out HB)) | skip); clear HB; (first | (have hst := storeRow_run (P := Tryz.prog) (cs := num4A (mP (mP u cu) (rpN (mP u sv)))) ZZ.out rfl (num4A_all _)) | (have hst := storeRow_run (P := Tryz.prog) (w := V2_3.alloc (.cells zero4 80)) (cs := num4A (mP (mP u cu) (rpN (mP u sv)))) (heap_alloc_new _ _) rfl (num4A_all _))); have hs4 : (num4A (mP (mP u cu) (rpN (mP u sv)))).size = 4 := rfl))
  all_goals (
   clear c_p00 c_p01 c_p02 c_p03
   clear c_cu0 c_cu1 c_cu2 c_cu3
   clear c_sv0 c_sv1 c_sv2 c_sv3
   clear hst hs4
   go_wp2_with fail
   go_meet
   case rel => first | exact ⟨_, rfl, hide (by have h1 := K2_0.out.size; have h2 := K2_1.out.size; have h3 := K2_2.out.size; have h4 := K2_3.out.size; omega), hide (setRow_heap _ _ _ _ _ _ ZZ.out), hide (below_setRow K2_3.out (by have h1 := K2_0.out.size; have h2 := K2_1.out.size; have h3 := K2_2.out.size; have h4 := K2_3.out.size; omega) _)⟩ | exact ⟨_, rfl, hide (by have h1 := K2_0.out.size; have h2 := K2_1.out.size; have h3 := K2_2.out.size; have h4 := K2_3.out.size; omega), hide (setRow_heap _ _ _ _ _ _ (heap_alloc_new _ _)), hide (below_setRow (K2_3.out.alloc K2_3.out.size _) (by have h1 := K2_0.out.size; have h2 := K2_1.out.size; have h3 := K2_2.out.size; have h4 := K2_3.out.size; omega) _)⟩)
 case rest =>
 obtain ⟨g3, rfl, G3, Q3, X3⟩ := hcut
 obtain ⟨W3, hW3⟩ : ∃ W3, W3 = wc := ⟨_, rfl⟩
 subst hW3
 have BL3 : Hid (Below w.heap.size w W3) := BL2.out.trans (X3.out.mono BL2.out.size)
 have Z3 : Hid (w.heap.size + 2 < W3.heap.size) := by show _ < _; have := Z2.out; have := X3.out.size; omega
 replace R0 := hide (row_below R0.out X3.out (lt_of_row R0.out))
 replace R1 := hide (row_below R1.out X3.out (lt_of_row R1.out))
 replace Q1 := hide (row_below Q1.out X3.out (lt_of_row Q1.out))
 replace Q2 := hide (row_below Q2.out X3.out (lt_of_row Q2.out))
 replace RZ := hide (row_below RZ.out X3.out Z2.out)
 have N3 : Hid (w.heap.size + 2 < g3) := by show _ < _; have := G3.out; have := Z2.out; omega
 clear X3 BL2 Z2 G3
 obtain ⟨rt, Ert⟩ : ∃ rt, Hid (rt = rtN u v) := ⟨_, rfl⟩
 have Hrt : Hid (rt < P) := by rw [Ert.out]; exact mP_lt _ _
 have Q3n : Hid (W3.heap[g3]? = some (.cells (num4A rt) 80 (0, 0))) := by have e := Q3.out; rw [Ecu.out, Esv.out] at e; rw [Ert.out]; exact e
 clear Q3; have Q3 := Q3n; clear Q3n
 go_upto_region 4 with fail
 go_cut [9] from 26 to 29 (fun s wx => ∃ g, s = .pointer (some ⟨g, 0, none⟩) ∧ Hid (W3.heap.size ≤ g) ∧ Hid (wx.heap[g]? = some (.cells (num4A (mP (mP rt rt) v)) 80 (0, 0))) ∧ Hid (Below W3.heap.size W3 wx))
 case first =>
  obtain ⟨c_rt0, c_rt1, c_rt2, c_rt3⟩ := c4_of Q3.out
  obtain ⟨c_p10, c_p11, c_p12, c_p13⟩ := c4_of R1.out
  go_region_held3 (fun w' => C4 w' (g3) (rt) ∧ C4 w' (w.heap.size + 1) (v))
   (first | exact ⟨c4_set (c4_alloc (c4_below (c4_of Q3.out) K3_1.out (lt_of_row Q3.out)) _) (by have h0 := lt_of_row Q3.out; have h1 := K3_0.out.size; have h2 := K3_1.out.size; have h9 := Z3.out; have n1 := N1.out; have n2 := N2.out; have n3 := N3.out; omega), c4_set (c4_alloc (c4_below (c4_of R1.out) K3_1.out (lt_of_row R1.out)) _) (by have h0 := lt_of_row R1.out; have h1 := K3_0.out.size; have h2 := K3_1.out.size; have h9 := Z3.out; have n1 := N1.out; have n2 := N2.out; have n3 := N3.out; omega)⟩ | exact ⟨c4_set (c4_below (c4_of Q3.out) K3_1.out (lt_of_row Q3.out)) (by have h0 := lt_of_row Q3.out; have h1 := K3_0.out.size; have h2 := K3_1.out.size; have h9 := Z3.out; have n1 := N1.out; have n2 := N2.out; have n3 := N3.out; omega), c4_set (c4_below (c4_of R1.out) K3_1.out (lt_of_row R1.out)) (by have h0 := lt_of_row R1.out; have h1 := K3_0.out.size; have h2 := K3_1.out.size; have h9 := Z3.out; have n1 := N1.out; have n2 := N2.out; have n3 := N3.out; omega)⟩ | exact ⟨(c4_below (c4_of Q3.out) K3_1.out (lt_of_row Q3.out)), (c4_below (c4_of R1.out) K3_1.out (lt_of_row R1.out))⟩ | exact ⟨c4_alloc (c4_below (c4_of Q3.out) K3_1.out (lt_of_row Q3.out)) _, c4_alloc (c4_below (c4_of R1.out) K3_1.out (lt_of_row R1.out)) _⟩ | exact ⟨(c4_below (c4_of Q3.out) K3_0.out (lt_of_row Q3.out)), (c4_below (c4_of R1.out) K3_0.out (lt_of_row R1.out))⟩ | exact ⟨c4_alloc (c4_below (c4_of Q3.out) K3_0.out (lt_of_row Q3.out)) _, c4_alloc (c4_below (c4_of R1.out) K3_0.out (lt_of_row R1.out)) _⟩ | exact ⟨c4_of Q3.out, c4_of R1.out⟩ | exact ⟨c4_alloc (w := W3.drew) (c4_of Q3.out) _, c4_alloc (w := W3.drew) (c4_of R1.out) _⟩ | go_keep)
   (first
    | (go_at_call 161; (fail_if_success (have zz := K3_0)); refine (feSquare rt Hrt.out _).mono ?_; rintro e V3_0 ⟨rfl, HB⟩; have K3_0 : Hid (Below W3.heap.size W3 V3_0) := (by first | exact hide (undrew HB) | exact hide (Below.trans (Below.alloc (Below.drew (Below.refl _ _)) (Nat.le_refl _) _) (HB.mono (by simp)))); (first | (have ZZ := hide (row_keep (heap_alloc_new _ (.cells zero4 80)) HB)) | (have ZZ := hide (row_keep (w := (W3.alloc (.cells zero4 80)).drew) (heap_alloc_new W3 (.cells zero4 80)) HB)) | (have ZZ := hide (row_keep ZZ.out HB)) | skip); clear HB)
    | (go_at_call 93; (fail_if_success (have zz := K3_1)); (have zz := K3_0; clear zz); refine (feTimes (mP rt rt) v (mP_lt _ _) Hv.out _).mono ?_; rintro e V3_1 ⟨rfl, HB⟩; have K3_1 : Hid (Below W3.heap.size W3 V3_1) := (by first | exact hide (K3_0.out.trans (HB.mono K3_0.out.size)) | exact hide ((K3_0.out.alloc K3_0.out.size _).trans (HB.mono (by have := K3_0.out.size; simp; omega)))); (first | (have ZZ := hide (row_keep (heap_alloc_new _ (.cells zero4 80)) HB)) | (have ZZ := hide (row_keep (w := (W3.alloc (.cells zero4 80)).drew) (heap_alloc_new W3 (.cells zero4 80)) HB)) | (have ZZ := hide (row_keep ZZ.out HB)) | skip); clear HB; (first | (have hst := storeRow_run (P := Tryz.prog) (cs := num4A (mP (mP rt rt) v)) ZZ.out rfl (num4A_all _)) | (have hst := storeRow_run (P := Tryz.prog) (w := V3_1.alloc (.cells zero4 80)) (cs := num4A (mP (mP rt rt) v)) (heap_alloc_new _ _) rfl (num4A_all _))); have hs4 : (num4A (mP (mP rt rt) v)).size = 4 := rfl))
  all_goals (
   clear c_rt0 c_rt1 c_rt2 c_rt3
   clear c_p10 c_p11 c_p12 c_p13
   clear hst hs4
   go_wp2_with fail
   go_meet
   case rel => first | exact ⟨_, rfl, hide (by have h1 := K3_0.out.size; have h2 := K3_1.out.size; omega), hide (setRow_heap _ _ _ _ _ _ ZZ.out), hide (below_setRow K3_1.out (by have h1 := K3_0.out.size; have h2 := K3_1.out.size; omega) _)⟩ | exact ⟨_, rfl, hide (by have h1 := K3_0.out.size; have h2 := K3_1.out.size; omega), hide (setRow_heap _ _ _ _ _ _ (heap_alloc_new _ _)), hide (below_setRow (K3_1.out.alloc K3_1.out.size _) (by have h1 := K3_0.out.size; have h2 := K3_1.out.size; omega) _)⟩)
 case rest =>
 obtain ⟨g4, rfl, G4, Q4, X4⟩ := hcut
 obtain ⟨W4, hW4⟩ : ∃ W4, W4 = wc := ⟨_, rfl⟩
 subst hW4
 have BL4 : Hid (Below w.heap.size w W4) := BL3.out.trans (X4.out.mono BL3.out.size)
 have Z4 : Hid (w.heap.size + 2 < W4.heap.size) := by show _ < _; have := Z3.out; have := X4.out.size; omega
 replace R0 := hide (row_below R0.out X4.out (lt_of_row R0.out))
 replace R1 := hide (row_below R1.out X4.out (lt_of_row R1.out))
 replace Q1 := hide (row_below Q1.out X4.out (lt_of_row Q1.out))
 replace Q2 := hide (row_below Q2.out X4.out (lt_of_row Q2.out))
 replace Q3 := hide (row_below Q3.out X4.out (lt_of_row Q3.out))
 replace RZ := hide (row_below RZ.out X4.out Z3.out)
 have N4 : Hid (w.heap.size + 2 < g4) := by show _ < _; have := G4.out; have := Z3.out; omega
 clear X4 BL3 Z3 G4
 obtain ⟨sq, Esq⟩ : ∃ sq, Hid (sq = sqrN u v) := ⟨_, rfl⟩
 have Hsq : Hid (sq < P) := by rw [Esq.out]; exact mP_lt _ _
 have Q4n : Hid (W4.heap[g4]? = some (.cells (num4A sq) 80 (0, 0))) := by have e := Q4.out; rw [Ert.out] at e; rw [Esq.out]; exact e
 clear Q4; have Q4 := Q4n; clear Q4n
 obtain ⟨c0, c1, c2, c3⟩ := c4_of Q4.out
 obtain ⟨d0, d1, d2, d3⟩ := c4_of R0.out
 have heq := feEq sq u Hsq.out Hu.out
 by_cases hsu : sq = u
 ·
  rw [decide_eq_true hsu] at heq
  have HY : Hid (sq = u) := hsu
  clear hsu
  go_wp2_with (first
   | (refine wpList_load_row (by rfl) 80 (.tmp 8) (by rfl) g3 (by rfl) 80 (num4A rt) (0, 0) _ Q3.out under33 rfl (feSize _) ?_)
   | (refine wpList_store_row (by rfl) 80 (.tmp 4) (.tmp 33) (by rfl) (w.heap.size + 2) (num4A rt) (by rfl) (by rfl) 80 _ RZ.out (feSize _) rfl (num4A_all _) ?_))
  refine bodyPost_ret (v := .tuple #[fe rt, .bool true]) (results_cell_tmp_row Tryz.results162 _ _ (w.heap.size + 2) 80 (num4A rt) (0, 0) _ (by rfl) (setRow_heap _ _ _ _ _ _ RZ.out) under33 rfl (feSize _)) rfl ⟨?_, below_setRow BL4.out (by omega) _⟩
  have h1 : sqrN u v = u := by rw [← Esq.out]; exact HY.out
  unfold rootV rootB
  rw [if_pos h1, decide_eq_true (Or.inl h1), ← Ert.out]
 ·
  rw [decide_eq_false hsu] at heq
  have HN : Hid (¬ sqrN u v = u) := by rw [← Esq.out]; exact hsu
  clear hsu
  have heq2 := feEq' sq (sP 0 u) Hsq.out (sP_lt _ _)
  go_upto_region 7 with fail
  clear heq
  go_region_held3 (fun w' => C4 w' g4 sq ∧ C4 w' w.heap.size u)
   (first | exact ⟨c4_below (c4_of Q4.out) KK.out (lt_of_row Q4.out), c4_below (c4_of R0.out) KK.out (lt_of_row R0.out)⟩ | exact ⟨c4_of Q4.out, c4_of R0.out⟩ | go_keep)
   (first
    | (go_at_call 119; refine (feMinus0 u Hu.out _).mono ?_; rintro e VV ⟨rfl, HB⟩; have KK : Hid (Below W4.heap.size W4 VV) := hide (undrew HB); clear HB))
  clear c0 c1 c2 c3 d0 d1 d2 d3
  have BL5 : Hid (Below w.heap.size w VV) := BL4.out.trans (KK.out.mono BL4.out.size)
  have RZ5 := hide (row_below RZ.out KK.out (lt_of_row RZ.out))
  have Q35 := hide (row_below Q3.out KK.out (lt_of_row Q3.out))
  have HG5 := hide (row_below HG.out BL5.out h5.out)
  by_cases hs2 : sq = sP 0 u
  ·
   have hd : decide (sq = sP 0 u) = true := decide_eq_true hs2
   have HY : Hid (sqrN u v = sP 0 u) := by rw [← Esq.out]; exact hs2
   clear hs2
   rw [hd]
   clear hd heq2
   go_wp2_with (first
    | (refine wpList_load_row (by rfl) 80 (.tmp 8) (by rfl) g3 (by rfl) 80 (num4A rt) (0, 0) _ Q35.out under33 rfl (feSize _) ?_)
    | (refine wpList_load_row (by rfl) 80 (.global 12) (by rfl) 12 (by rfl) T5 (num4A rmN) fr5 _ HG5.out under33 rfl (feSize _) ?_))
   refine (feTimes rt rmN Hrt.out (by decide) _).mono ?_
   rintro e V6 ⟨rfl, hB6⟩
   have RZ6 := hide (row_keep RZ5.out hB6)
   have BL6 : Hid (Below w.heap.size w V6) := BL5.out.trans (hB6.mono BL5.out.size)
   clear hB6
   obtain ⟨x, HX⟩ : ∃ x, Hid (x = mP rt rmN) := ⟨_, rfl⟩
   rw [← HX.out]
   go_wp2_with (first
    | (refine wpList_store_row (by rfl) 80 (.tmp 4) (.tmp 41) (by rfl) (w.heap.size + 2) (num4A x) (by rfl) (by rfl) 80 _ RZ6.out (feSize _) rfl (num4A_all _) ?_))
   refine bodyPost_ret (v := .tuple #[fe x, .bool true]) (results_cell_tmp_row Tryz.results162 _ _ (w.heap.size + 2) 80 (num4A x) (0, 0) _ (by rfl) (setRow_heap _ _ _ _ _ _ RZ6.out) under33 rfl (feSize _)) rfl ⟨?_, below_setRow BL6.out (by omega) _⟩
   unfold rootV rootB
   rw [if_neg HN.out, if_pos HY.out, decide_eq_true (Or.inr HY.out), ← Ert.out, ← HX.out]
  ·
   have hd : decide (sq = sP 0 u) = false := decide_eq_false hs2
   have HY : Hid (¬ sqrN u v = sP 0 u) := by rw [← Esq.out]; exact hs2
   clear hs2
   rw [hd]
   clear hd heq2
   go_wp2_with (first
    | (refine wpList_store_row (by rfl) 80 (.tmp 4) (.tmp 42) (by rfl) (w.heap.size + 2) zero4 (by rfl) (by rfl) 80 _ RZ5.out size33 rfl zero4_all ?_))
   refine bodyPost_ret (v := .tuple #[.agg zero4, .bool false]) (results_cell_tmp_row Tryz.results162 _ _ (w.heap.size + 2) 80 zero4 (0, 0) _ (by rfl) (setRow_heap _ _ _ _ _ _ RZ5.out) under33 rfl size33) rfl ⟨?_, below_setRow BL5.out (by omega) _⟩
   unfold rootV rootB
   rw [if_neg HN.out, if_neg HY.out, decide_eq_false (fun h => h.elim HN.out HY.out)]
   show Ending.returned (.tuple #[.agg zero4, .bool false]) = .returned (.tuple #[.agg (num4A 0), .bool false])
   rw [num4A_zero]
end Go.Proofs.YtccgfabojbjmjaaGreatDoor
