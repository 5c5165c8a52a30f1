import Derived.Test.YtemdlpcljjdfjaaDoorLong
/- Package field: rootPower, Inverse. Made by program (genpow.py). -/
namespace Go.Proofs.YtemdlpcljjdfjaaDoor
open Go.RowKit
def rpN (a : Nat) : Nat := mP (sqN 2 (lgN a)) a
theorem rpN_lt (a : Nat) : rpN a < P := mP_lt _ _
def invN (a : Nat) : Nat := mP (sqN 5 (lgN a)) (mP (mP a (sqN 1 a)) (sqN 3 a))
theorem invN_lt (a : Nat) : invN a < P := mP_lt _ _
set_option maxRecDepth 100000 in
set_option maxHeartbeats 2000000 in
theorem feRootPower (a : Nat) (ha : a < P) (w : World) :
    Calls Tryd.prog 90 #[fe a] w fun e w' => e = .returned (fe (rpN a)) ∧ Below w.heap.size w w' := by
  have Ha := hide ha
  clear ha
  go_enter Tryd.func90, Tryd.ntmps90
  go_wp2_with fail
  obtain ⟨W0, hW0⟩ : ∃ W0, W0 = ((w.alloc (.cells (num4A a) 42)).alloc (.cells zero4 42)) := ⟨_, rfl⟩
  rw [← hW0]
  have R0 : Hid (W0.heap[w.heap.size]? = some (.cells (num4A a) 42 (0, 0))) := by rw [hW0]; exact at2_0 _ _ _
  have RZ : Hid (W0.heap[w.heap.size + 1]? = some (.cells zero4 42 (0, 0))) := by rw [hW0]; exact at2_1 _ _ _
  have BL0 : Hid (Below w.heap.size w W0) := by rw [hW0]; show Below _ _ _; go_grown
  have Z0 : Hid (w.heap.size + 1 < W0.heap.size) := lt_of_row RZ.out
  clear hW0
  go_upto_region 1 with fail
  obtain ⟨c_p00, c_p01, c_p02, c_p03⟩ := c4_of R0.out
  go_region_held3 (fun w' => C4 w' (w.heap.size) (a))
    (first | exact c4_set (c4_below (c4_of R0.out) K0_2.out (lt_of_row R0.out)) (by have h0 := lt_of_row R0.out; have h1 := K0_0.out.size; have h2 := K0_1.out.size; have h3 := K0_2.out.size; have h9 := Z0.out; omega) | exact (c4_below (c4_of R0.out) K0_2.out (lt_of_row R0.out)) | exact (c4_below (c4_of R0.out) K0_1.out (lt_of_row R0.out)) | exact (c4_below (c4_of R0.out) K0_0.out (lt_of_row R0.out)) | exact c4_of R0.out | go_keep)
    (first
      | (go_at_call 76; (fail_if_success (have zz := K0_0)); refine (feLong a Ha.out _).mono ?_; rintro e V0_0 ⟨rfl, HB⟩; have K0_0 : Hid (Below W0.heap.size W0 V0_0) := (by first | exact hide (undrew HB) | exact hide (Below.trans (Below.alloc (Below.drew (Below.refl _ _)) (Nat.le_refl _) _) (HB.mono (by simp)))); clear HB)
      | (go_at_call 75; (fail_if_success (have zz := K0_1)); (have zz := K0_0; clear zz); refine (feSquared (lgN a) 2 (lgN_lt _) (by decide) _).mono ?_; rintro e V0_1 ⟨rfl, HB⟩; have K0_1 : Hid (Below W0.heap.size W0 V0_1) := (by first | exact hide (K0_0.out.trans (HB.mono K0_0.out.size)) | exact hide ((K0_0.out.alloc K0_0.out.size _).trans (HB.mono (by have := K0_0.out.size; simp; omega)))); clear HB)
      | (go_at_call 44; (fail_if_success (have zz := K0_2)); (have zz := K0_1; clear zz); refine (feTimes (sqN 2 (lgN a)) a (sqN_lt 2 _ (lgN_lt _)) Ha.out _).mono ?_; rintro e V0_2 ⟨rfl, HB⟩; have K0_2 : Hid (Below W0.heap.size W0 V0_2) := (by first | exact hide (K0_1.out.trans (HB.mono K0_1.out.size)) | exact hide ((K0_1.out.alloc K0_1.out.size _).trans (HB.mono (by have := K0_1.out.size; simp; omega)))); clear HB; have hst := storeRow_run (P := Tryd.prog) (cs := num4A (mP (sqN 2 (lgN a)) a)) ((K0_2.out.block _ Z0.out).trans RZ.out) rfl (num4A_all _); have hs4 : (num4A (mP (sqN 2 (lgN a)) a)).size = 4 := rfl))
  clear c_p00 c_p01 c_p02 c_p03
  clear hst hs4
  go_wp2_with fail
  refine bodyPost_ret (v := fe (mP (sqN 2 (lgN a)) a)) (results_cell_row Tryd.results90 _ _ (w.heap.size + 1) 42 (num4A (mP (sqN 2 (lgN a)) a)) (0, 0) _ (by rfl) (setRow_heap _ _ _ _ _ _ ((K0_2.out.block _ Z0.out).trans RZ.out)) under33 rfl (feSize _)) rfl ⟨rfl, below_setRow (BL0.out.trans (K0_2.out.mono BL0.out.size)) (by omega) _⟩
set_option maxRecDepth 100000 in
set_option maxHeartbeats 2000000 in
theorem feInverse (a : Nat) (ha : a < P) (w : World) :
    Calls Tryd.prog 47 #[fe a] w fun e w' => e = .returned (fe (invN a)) ∧ Below w.heap.size w w' := by
  have Ha := hide ha
  clear ha
  go_enter Tryd.func47, Tryd.ntmps47
  go_wp2_with fail
  obtain ⟨W0, hW0⟩ : ∃ W0, W0 = ((w.alloc (.cells (num4A a) 42)).alloc (.cells zero4 42)) := ⟨_, rfl⟩
  rw [← hW0]
  have R0 : Hid (W0.heap[w.heap.size]? = some (.cells (num4A a) 42 (0, 0))) := by rw [hW0]; exact at2_0 _ _ _
  have RZ : Hid (W0.heap[w.heap.size + 1]? = some (.cells zero4 42 (0, 0))) := by rw [hW0]; exact at2_1 _ _ _
  have BL0 : Hid (Below w.heap.size w W0) := by rw [hW0]; show Below _ _ _; go_grown
  have Z0 : Hid (w.heap.size + 1 < W0.heap.size) := lt_of_row RZ.out
  clear hW0
  go_upto_region 1 with fail
  go_cut [3] from 4 to 10 (fun s wx => ∃ g, s = .pointer (some ⟨g, 0, none⟩) ∧ Hid (W0.heap.size ≤ g) ∧ Hid (wx.heap[g]? = some (.cells (num4A (mP (mP a (sqN 1 a)) (sqN 3 a))) 42 (0, 0))) ∧ Hid (Below W0.heap.size W0 wx))
  case first =>
    obtain ⟨c_p00, c_p01, c_p02, c_p03⟩ := c4_of R0.out
    go_region_held3 (fun w' => C4 w' (w.heap.size) (a))
      (first | exact c4_set (c4_alloc (c4_below (c4_of R0.out) K0_3.out (lt_of_row R0.out)) _) (by have h0 := lt_of_row R0.out; have h1 := K0_0.out.size; have h2 := K0_1.out.size; have h3 := K0_2.out.size; have h4 := K0_3.out.size; have h9 := Z0.out; omega) | exact c4_set (c4_below (c4_of R0.out) K0_3.out (lt_of_row R0.out)) (by have h0 := lt_of_row R0.out; have h1 := K0_0.out.size; have h2 := K0_1.out.size; have h3 := K0_2.out.size; have h4 := K0_3.out.size; have h9 := Z0.out; omega) | exact (c4_below (c4_of R0.out) K0_3.out (lt_of_row R0.out)) | exact c4_alloc (c4_below (c4_of R0.out) K0_3.out (lt_of_row R0.out)) _ | exact (c4_below (c4_of R0.out) K0_2.out (lt_of_row R0.out)) | exact c4_alloc (c4_below (c4_of R0.out) K0_2.out (lt_of_row R0.out)) _ | exact (c4_below (c4_of R0.out) K0_1.out (lt_of_row R0.out)) | exact c4_alloc (c4_below (c4_of R0.out) K0_1.out (lt_of_row R0.out)) _ | exact (c4_below (c4_of R0.out) K0_0.out (lt_of_row R0.out)) | exact c4_alloc (c4_below (c4_of R0.out) K0_0.out (lt_of_row R0.out)) _ | exact c4_of R0.out | exact c4_alloc (w := W0.drew) (c4_of R0.out) _ | go_keep)
      (first
        | (go_at_call 75; (fail_if_success (have zz := K0_0)); refine (feSquared a 1 Ha.out (by decide) _).mono ?_; rintro e V0_0 ⟨rfl, HB⟩; have K0_0 : Hid (Below W0.heap.size W0 V0_0) := (by first | exact hide (undrew HB) | exact hide (Below.trans (Below.alloc (Below.drew (Below.refl _ _)) (Nat.le_refl _) _) (HB.mono (by simp)))); (first | (have ZZ := hide (row_keep (heap_alloc_new _ (.cells zero4 42)) HB)) | (have ZZ := hide (row_keep (w := (W0.alloc (.cells zero4 42)).drew) (heap_alloc_new W0 (.cells zero4 42)) HB)) | (have ZZ := hide (row_keep ZZ.out HB)) | skip); clear HB)
        | (go_at_call 44; (fail_if_success (have zz := K0_1)); (have zz := K0_0; clear zz); refine (feTimes a (sqN 1 a) Ha.out (sqN_lt 1 _ Ha.out) _).mono ?_; rintro e V0_1 ⟨rfl, HB⟩; have K0_1 : Hid (Below W0.heap.size W0 V0_1) := (by first | exact hide (K0_0.out.trans (HB.mono K0_0.out.size)) | exact hide ((K0_0.out.alloc K0_0.out.size _).trans (HB.mono (by have := K0_0.out.size; simp; omega)))); (first | (have ZZ := hide (row_keep (heap_alloc_new _ (.cells zero4 42)) HB)) | (have ZZ := hide (row_keep (w := (W0.alloc (.cells zero4 42)).drew) (heap_alloc_new W0 (.cells zero4 42)) HB)) | (have ZZ := hide (row_keep ZZ.out HB)) | skip); clear HB)
        | (go_at_call 75; (fail_if_success (have zz := K0_2)); (have zz := K0_1; clear zz); refine (feSquared a 3 Ha.out (by decide) _).mono ?_; rintro e V0_2 ⟨rfl, HB⟩; have K0_2 : Hid (Below W0.heap.size W0 V0_2) := (by first | exact hide (K0_1.out.trans (HB.mono K0_1.out.size)) | exact hide ((K0_1.out.alloc K0_1.out.size _).trans (HB.mono (by have := K0_1.out.size; simp; omega)))); (first | (have ZZ := hide (row_keep (heap_alloc_new _ (.cells zero4 42)) HB)) | (have ZZ := hide (row_keep (w := (W0.alloc (.cells zero4 42)).drew) (heap_alloc_new W0 (.cells zero4 42)) HB)) | (have ZZ := hide (row_keep ZZ.out HB)) | skip); clear HB)
        | (go_at_call 44; (fail_if_success (have zz := K0_3)); (have zz := K0_2; clear zz); refine (feTimes (mP a (sqN 1 a)) (sqN 3 a) (mP_lt _ _) (sqN_lt 3 _ Ha.out) _).mono ?_; rintro e V0_3 ⟨rfl, HB⟩; have K0_3 : Hid (Below W0.heap.size W0 V0_3) := (by first | exact hide (K0_2.out.trans (HB.mono K0_2.out.size)) | exact hide ((K0_2.out.alloc K0_2.out.size _).trans (HB.mono (by have := K0_2.out.size; simp; omega)))); (first | (have ZZ := hide (row_keep (heap_alloc_new _ (.cells zero4 42)) HB)) | (have ZZ := hide (row_keep (w := (W0.alloc (.cells zero4 42)).drew) (heap_alloc_new W0 (.cells zero4 42)) HB)) | (have ZZ := hide (row_keep ZZ.out HB)) | skip); clear HB; (first | (have hst := storeRow_run (P := Tryd.prog) (cs := num4A (mP (mP a (sqN 1 a)) (sqN 3 a))) ZZ.out rfl (num4A_all _)) | (have hst := storeRow_run (P := Tryd.prog) (w := V0_3.alloc (.cells zero4 42)) (cs := num4A (mP (mP a (sqN 1 a)) (sqN 3 a))) (heap_alloc_new _ _) rfl (num4A_all _))); have hs4 : (num4A (mP (mP a (sqN 1 a)) (sqN 3 a))).size = 4 := rfl))
    all_goals (
      clear c_p00 c_p01 c_p02 c_p03
      clear hst hs4
      go_wp2_with fail
      go_meet
      case rel => first | exact ⟨_, rfl, hide (by have h1 := K0_0.out.size; have h2 := K0_1.out.size; have h3 := K0_2.out.size; have h4 := K0_3.out.size; omega), hide (setRow_heap _ _ _ _ _ _ ZZ.out), hide (below_setRow K0_3.out (by have h1 := K0_0.out.size; have h2 := K0_1.out.size; have h3 := K0_2.out.size; have h4 := K0_3.out.size; omega) _)⟩ | exact ⟨_, rfl, hide (by have h1 := K0_0.out.size; have h2 := K0_1.out.size; have h3 := K0_2.out.size; have h4 := K0_3.out.size; omega), hide (setRow_heap _ _ _ _ _ _ (heap_alloc_new _ _)), hide (below_setRow (K0_3.out.alloc K0_3.out.size _) (by have h1 := K0_0.out.size; have h2 := K0_1.out.size; have h3 := K0_2.out.size; have h4 := K0_3.out.size; omega) _)⟩)
  case rest =>
  obtain ⟨g1, rfl, G1, Q1, X1⟩ := hcut
  obtain ⟨W1, hW1⟩ : ∃ W1, W1 = wc := ⟨_, rfl⟩
  subst hW1
  have BL1 : Hid (Below w.heap.size w W1) := BL0.out.trans (X1.out.mono BL0.out.size)
  have Z1 : Hid (w.heap.size + 1 < W1.heap.size) := by show _ < _; have := Z0.out; have := X1.out.size; omega
  have R0' := hide (row_below R0.out X1.out (lt_of_row R0.out)); clear R0; have R0 := R0'; clear R0'
  have RZ' := hide (row_below RZ.out X1.out Z0.out); clear RZ; have RZ := RZ'; clear RZ'
  have N1 : Hid (w.heap.size + 1 < g1) := by show _ < _; have := G1.out; have := Z0.out; omega
  clear X1 BL0 Z0 G1
  go_upto_region 2 with fail
  obtain ⟨c_p00, c_p01, c_p02, c_p03⟩ := c4_of R0.out
  obtain ⟨c_el0, c_el1, c_el2, c_el3⟩ := c4_of Q1.out
  go_region_held3 (fun w' => C4 w' (w.heap.size) (a) ∧ C4 w' (g1) (mP (mP a (sqN 1 a)) (sqN 3 a)))
    (first | exact ⟨c4_set (c4_below (c4_of R0.out) K1_2.out (lt_of_row R0.out)) (by have h0 := lt_of_row R0.out; have h1 := K1_0.out.size; have h2 := K1_1.out.size; have h3 := K1_2.out.size; have h9 := Z1.out; have n1 := N1.out; omega), c4_set (c4_below (c4_of Q1.out) K1_2.out (lt_of_row Q1.out)) (by have h0 := lt_of_row Q1.out; have h1 := K1_0.out.size; have h2 := K1_1.out.size; have h3 := K1_2.out.size; have h9 := Z1.out; have n1 := N1.out; omega)⟩ | exact ⟨(c4_below (c4_of R0.out) K1_2.out (lt_of_row R0.out)), (c4_below (c4_of Q1.out) K1_2.out (lt_of_row Q1.out))⟩ | exact ⟨(c4_below (c4_of R0.out) K1_1.out (lt_of_row R0.out)), (c4_below (c4_of Q1.out) K1_1.out (lt_of_row Q1.out))⟩ | exact ⟨(c4_below (c4_of R0.out) K1_0.out (lt_of_row R0.out)), (c4_below (c4_of Q1.out) K1_0.out (lt_of_row Q1.out))⟩ | exact ⟨c4_of R0.out, c4_of Q1.out⟩ | go_keep)
    (first
      | (go_at_call 76; (fail_if_success (have zz := K1_0)); refine (feLong a Ha.out _).mono ?_; rintro e V1_0 ⟨rfl, HB⟩; have K1_0 : Hid (Below W1.heap.size W1 V1_0) := (by first | exact hide (undrew HB) | exact hide (Below.trans (Below.alloc (Below.drew (Below.refl _ _)) (Nat.le_refl _) _) (HB.mono (by simp)))); clear HB)
      | (go_at_call 75; (fail_if_success (have zz := K1_1)); (have zz := K1_0; clear zz); refine (feSquared (lgN a) 5 (lgN_lt _) (by decide) _).mono ?_; rintro e V1_1 ⟨rfl, HB⟩; have K1_1 : Hid (Below W1.heap.size W1 V1_1) := (by first | exact hide (K1_0.out.trans (HB.mono K1_0.out.size)) | exact hide ((K1_0.out.alloc K1_0.out.size _).trans (HB.mono (by have := K1_0.out.size; simp; omega)))); clear HB)
      | (go_at_call 44; (fail_if_success (have zz := K1_2)); (have zz := K1_1; clear zz); refine (feTimes (sqN 5 (lgN a)) (mP (mP a (sqN 1 a)) (sqN 3 a)) (sqN_lt 5 _ (lgN_lt _)) (mP_lt _ _) _).mono ?_; rintro e V1_2 ⟨rfl, HB⟩; have K1_2 : Hid (Below W1.heap.size W1 V1_2) := (by first | exact hide (K1_1.out.trans (HB.mono K1_1.out.size)) | exact hide ((K1_1.out.alloc K1_1.out.size _).trans (HB.mono (by have := K1_1.out.size; simp; omega)))); clear HB; have hst := storeRow_run (P := Tryd.prog) (cs := num4A (mP (sqN 5 (lgN a)) (mP (mP a (sqN 1 a)) (sqN 3 a)))) ((K1_2.out.block _ Z1.out).trans RZ.out) rfl (num4A_all _); have hs4 : (num4A (mP (sqN 5 (lgN a)) (mP (mP a (sqN 1 a)) (sqN 3 a)))).size = 4 := rfl))
  clear c_p00 c_p01 c_p02 c_p03
  clear c_el0 c_el1 c_el2 c_el3
  clear hst hs4
  go_wp2_with fail
  refine bodyPost_ret (v := fe (mP (sqN 5 (lgN a)) (mP (mP a (sqN 1 a)) (sqN 3 a)))) (results_cell_row Tryd.results47 _ _ (w.heap.size + 1) 42 (num4A (mP (sqN 5 (lgN a)) (mP (mP a (sqN 1 a)) (sqN 3 a)))) (0, 0) _ (by rfl) (setRow_heap _ _ _ _ _ _ ((K1_2.out.block _ Z1.out).trans RZ.out)) under33 rfl (feSize _)) rfl ⟨rfl, below_setRow (BL1.out.trans (K1_2.out.mono BL1.out.size)) (by omega) _⟩
end Go.Proofs.YtemdlpcljjdfjaaDoor
