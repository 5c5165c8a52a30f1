import Derived.Test.YtccgfabojbjmjaaGreatDoorSg10
namespace Go.Proofs.YtccgfabojbjmjaaGreatDoor
open Go.RowKit
def rmN : Nat := 19681161376707505956807079304988542015446066515923890162744021073123829784752
def cbN (v : Nat) : Nat := mP (mP v v) v
def svN (v : Nat) : Nat := mP (mP (cbN v) (cbN v)) v
def rtN (u v : Nat) : Nat := mP (mP u (cbN v)) (rpN (mP u (svN v)))
def sqrN (u v : Nat) : Nat := mP (mP (rtN u v) (rtN u v)) v
def qce (u v : Nat) : Nat := if sqrN u v = u then rtN u v else if sqrN u v = sP 0 u then mP (rtN u v) rmN else 0
def qcV (u v : Nat) : Bool := decide (sqrN u v = u ∨ sqrN u v = sP 0 u)
theorem rootV_lt (u v : Nat) : qce u v < P := by
 unfold qce; split
 · exact qaB _ _
 ·
  split
  · exact qaB _ _
  · exact qbQ
set_option maxRecDepth 100000 in
set_option maxHeartbeats 2000000 in
theorem feRoot (u v : Nat) (hu : u < P) (hv : v < P) (T5 : TypeId) (fr5 : Nat × Nat) (w : World) (hG : w.heap[12]? = some (.cells (qac rmN) T5 fr5)) :
  Calls Tryz.prog 162 #[fe u, fe v] w fun e w' => e = .returned (.tuple #[fe (qce u v), .bool (qcV u v)]) ∧ Below w.heap.size w w' := by
 have Hu := qaf hu
 have Hv := qaf hv
 clear hu hv
 have HG := qaf hG
 have h5 : Hid (12 < w.heap.size) := qab hG
 clear hG
 go_enter Tryz.func162, Tryz.ntmps162
 go_wp2_with fail
 obtain ⟨W0, hW0⟩ : ∃ W0, W0 = (((w.alloc (.cells (qac u) 80)).alloc (.cells (qac v) 80)).alloc (.cells qaw 80)) := ⟨_, rfl⟩
 rw [← hW0]
 have R0 : Hid (W0.heap[w.heap.size]? = some (.cells (qac u) 80 (0, 0))) := by rw [hW0]; exact at3_0 _ _ _ _
 have R1 : Hid (W0.heap[w.heap.size + 1]? = some (.cells (qac v) 80 (0, 0))) := by rw [hW0]; exact at3_1 _ _ _ _
 have RZ : Hid (W0.heap[w.heap.size + 2]? = some (.cells qaw 80 (0, 0))) := by rw [hW0]; exact at3_2 _ _ _ _
 have BL0 : Hid (Below w.heap.size w W0) := by rw [hW0]; show Below _ _ _; go_grown
 have Z0 : Hid (w.heap.size + 2 < W0.heap.size) := qab RZ.out
 clear hW0
 go_upto_region 1 with fail
 go_cut [6] from 10 to 13 (fun s wx => ∃ g, s = .pointer (some ⟨g, 0, none⟩) ∧ Hid (W0.heap.size ≤ g) ∧ Hid (wx.heap[g]? = some (.cells (qac (mP (mP v v) v)) 80 (0, 0))) ∧ Hid (Below W0.heap.size W0 wx))
 case first =>
  obtain ⟨c_p10, c_p11, c_p12, c_p13⟩ := qan R1.out
  go_region_held3 (fun w' => C4 w' (w.heap.size + 1) (v))
   (first | exact qaM (qap (qai (qan R1.out) K0_1.out (qab R1.out)) _) (by have h0 := qab R1.out; have h1 := K0_0.out.size; have h2 := K0_1.out.size; have h9 := Z0.out; omega) | exact qaM (qai (qan R1.out) K0_1.out (qab R1.out)) (by have h0 := qab R1.out; have h1 := K0_0.out.size; have h2 := K0_1.out.size; have h9 := Z0.out; omega) | exact (qai (qan R1.out) K0_1.out (qab R1.out)) | exact qap (qai (qan R1.out) K0_1.out (qab R1.out)) _ | exact (qai (qan R1.out) K0_0.out (qab R1.out)) | exact qap (qai (qan R1.out) K0_0.out (qab R1.out)) _ | exact qan R1.out | exact qap (w := W0.drew) (qan R1.out) _ | go_keep)
   (first
    | (go_at_call 161; (fail_if_success (have zz := K0_0)); refine (qdV v Hv.out _).mono ?_; rintro e V0_0 ⟨rfl, HB⟩; have K0_0 : Hid (Below W0.heap.size W0 V0_0) := (by first | exact qaf (qbJ HB) | exact qaf (Below.trans (Below.alloc (Below.drew (Below.refl _ _)) (Nat.le_refl _) _) (HB.mono (by simp)))); (first | (have ZZ := qaf (qao (heap_alloc_new _ (.cells qaw 80)) HB)) | (have ZZ := qaf (qao (w := (W0.alloc (.cells qaw 80)).drew) (heap_alloc_new W0 (.cells qaw 80)) HB)) | (have ZZ := qaf (qao ZZ.out HB)) | skip); clear HB)
    | (go_at_call 93; (fail_if_success (have zz := K0_1)); (have zz := K0_0; clear zz); refine (qaR (mP v v) v (qaB _ _) Hv.out _).mono ?_; rintro e V0_1 ⟨rfl, HB⟩; have K0_1 : Hid (Below W0.heap.size W0 V0_1) := (by first | exact qaf (K0_0.out.trans (HB.mono K0_0.out.size)) | exact qaf ((K0_0.out.alloc K0_0.out.size _).trans (HB.mono (by have := K0_0.out.size; simp; omega)))); (first | (have ZZ := qaf (qao (heap_alloc_new _ (.cells qaw 80)) HB)) | (have ZZ := qaf (qao (w := (W0.alloc (.cells qaw 80)).drew) (heap_alloc_new W0 (.cells qaw 80)) HB)) | (have ZZ := qaf (qao ZZ.out HB)) | skip); clear HB; (first | (have hst := qau (P := Tryz.prog) (cs := qac (mP (mP v v) v)) ZZ.out rfl (qaq _)) | (have hst := qau (P := Tryz.prog) (w := V0_1.alloc (.cells qaw 80)) (cs := qac (mP (mP v v) v)) (heap_alloc_new _ _) rfl (qaq _))); have hs4 : (qac (mP (mP v v) v)).size = 4 := rfl))
  all_goals (
   clear c_p10 c_p11 c_p12 c_p13
   clear hst hs4
   go_wp2_with fail
   go_meet
   case rel => first | exact ⟨_, rfl, qaf (by have h1 := K0_0.out.size; have h2 := K0_1.out.size; omega), qaf (setRow_heap _ _ _ _ _ _ ZZ.out), qaf (below_setRow K0_1.out (by have h1 := K0_0.out.size; have h2 := K0_1.out.size; omega) _)⟩ | exact ⟨_, rfl, qaf (by have h1 := K0_0.out.size; have h2 := K0_1.out.size; omega), qaf (setRow_heap _ _ _ _ _ _ (heap_alloc_new _ _)), qaf (below_setRow (K0_1.out.alloc K0_1.out.size _) (by have h1 := K0_0.out.size; have h2 := K0_1.out.size; omega) _)⟩)
 case rest =>
 obtain ⟨g1, rfl, G1, Q1, X1⟩ := hcut
 obtain ⟨W1, hW1⟩ : ∃ W1, W1 = wc := ⟨_, rfl⟩
 subst hW1
 have BL1 : Hid (Below w.heap.size w W1) := BL0.out.trans (X1.out.mono BL0.out.size)
 have Z1 : Hid (w.heap.size + 2 < W1.heap.size) := by show _ < _; have := Z0.out; have := X1.out.size; omega
 replace R0 := qaf (qah R0.out X1.out (qab R0.out))
 replace R1 := qaf (qah R1.out X1.out (qab R1.out))
 replace RZ := qaf (qah RZ.out X1.out Z0.out)
 have N1 : Hid (w.heap.size + 2 < g1) := by show _ < _; have := G1.out; have := Z0.out; omega
 clear X1 BL0 Z0 G1
 obtain ⟨cu, Ecu⟩ : ∃ cu, Hid (cu = cbN v) := ⟨_, rfl⟩
 have Hcu : Hid (cu < P) := by rw [Ecu.out]; exact qaB _ _
 have Q1n : Hid (W1.heap[g1]? = some (.cells (qac cu) 80 (0, 0))) := by rw [Ecu.out]; exact Q1
 clear Q1; have Q1 := Q1n; clear Q1n
 go_upto_region 2 with fail
 go_cut [7] from 14 to 17 (fun s wx => ∃ g, s = .pointer (some ⟨g, 0, none⟩) ∧ Hid (W1.heap.size ≤ g) ∧ Hid (wx.heap[g]? = some (.cells (qac (mP (mP cu cu) v)) 80 (0, 0))) ∧ Hid (Below W1.heap.size W1 wx))
 case first =>
  obtain ⟨c_cu0, c_cu1, c_cu2, c_cu3⟩ := qan Q1.out
  obtain ⟨c_p10, c_p11, c_p12, c_p13⟩ := qan R1.out
  go_region_held3 (fun w' => C4 w' (g1) (cu) ∧ C4 w' (w.heap.size + 1) (v))
   (first | exact ⟨qaM (qap (qai (qan Q1.out) K1_1.out (qab Q1.out)) _) (by have h0 := qab Q1.out; have h1 := K1_0.out.size; have h2 := K1_1.out.size; have h9 := Z1.out; have n1 := N1.out; omega), qaM (qap (qai (qan R1.out) K1_1.out (qab R1.out)) _) (by have h0 := qab R1.out; have h1 := K1_0.out.size; have h2 := K1_1.out.size; have h9 := Z1.out; have n1 := N1.out; omega)⟩ | exact ⟨qaM (qai (qan Q1.out) K1_1.out (qab Q1.out)) (by have h0 := qab Q1.out; have h1 := K1_0.out.size; have h2 := K1_1.out.size; have h9 := Z1.out; have n1 := N1.out; omega), qaM (qai (qan R1.out) K1_1.out (qab R1.out)) (by have h0 := qab R1.out; have h1 := K1_0.out.size; have h2 := K1_1.out.size; have h9 := Z1.out; have n1 := N1.out; omega)⟩ | exact ⟨(qai (qan Q1.out) K1_1.out (qab Q1.out)), (qai (qan R1.out) K1_1.out (qab R1.out))⟩ | exact ⟨qap (qai (qan Q1.out) K1_1.out (qab Q1.out)) _, qap (qai (qan R1.out) K1_1.out (qab R1.out)) _⟩ | exact ⟨(qai (qan Q1.out) K1_0.out (qab Q1.out)), (qai (qan R1.out) K1_0.out (qab R1.out))⟩ | exact ⟨qap (qai (qan Q1.out) K1_0.out (qab Q1.out)) _, qap (qai (qan R1.out) K1_0.out (qab R1.out)) _⟩ | exact ⟨qan Q1.out, qan R1.out⟩ | exact ⟨qap (w := W1.drew) (qan Q1.out) _, qap (w := W1.drew) (qan R1.out) _⟩ | go_keep)
   (first
    | (go_at_call 161; (fail_if_success (have zz := K1_0)); refine (qdV cu Hcu.out _).mono ?_; rintro e V1_0 ⟨rfl, HB⟩; have K1_0 : Hid (Below W1.heap.size W1 V1_0) := (by first | exact qaf (qbJ HB) | exact qaf (Below.trans (Below.alloc (Below.drew (Below.refl _ _)) (Nat.le_refl _) _) (HB.mono (by simp)))); (first | (have ZZ := qaf (qao (heap_alloc_new _ (.cells qaw 80)) HB)) | (have ZZ := qaf (qao (w := (W1.alloc (.cells qaw 80)).drew) (heap_alloc_new W1 (.cells qaw 80)) HB)) | (have ZZ := qaf (qao ZZ.out HB)) | skip); clear HB)
    | (go_at_call 93; (fail_if_success (have zz := K1_1)); (have zz := K1_0; clear zz); refine (qaR (mP cu cu) v (qaB _ _) Hv.out _).mono ?_; rintro e V1_1 ⟨rfl, HB⟩; have K1_1 : Hid (Below W1.heap.size W1 V1_1) := (by first | exact qaf (K1_0.out.trans (HB.mono K1_0.out.size)) | exact qaf ((K1_0.out.alloc K1_0.out.size _).trans (HB.mono (by have := K1_0.out.size; simp; omega)))); (first | (have ZZ := qaf (qao (heap_alloc_new _ (.cells qaw 80)) HB)) | (have ZZ := qaf (qao (w := (W1.alloc (.cells qaw 80)).drew) (heap_alloc_new W1 (.cells qaw 80)) HB)) | (have ZZ := qaf (qao ZZ.out HB)) | skip); clear HB; (first | (have hst := qau (P := Tryz.prog) (cs := qac (mP (mP cu cu) v)) ZZ.out rfl (qaq _)) | (have hst := qau (P := Tryz.prog) (w := V1_1.alloc (.cells qaw 80)) (cs := qac (mP (mP cu cu) v)) (heap_alloc_new _ _) rfl (qaq _))); have hs4 : (qac (mP (mP cu cu) v)).size = 4 := rfl))
  all_goals (
   clear c_cu0 c_cu1 c_cu2 c_cu3
   clear c_p10 c_p11 c_p12 c_p13
   clear hst hs4
   go_wp2_with fail
   go_meet
   case rel => first | exact ⟨_, rfl, qaf (by have h1 := K1_0.out.size; have h2 := K1_1.out.size; omega), qaf (setRow_heap _ _ _ _ _ _ ZZ.out), qaf (below_setRow K1_1.out (by have h1 := K1_0.out.size; have h2 := K1_1.out.size; omega) _)⟩ | exact ⟨_, rfl, qaf (by have h1 := K1_0.out.size; have h2 := K1_1.out.size; omega), qaf (setRow_heap _ _ _ _ _ _ (heap_alloc_new _ _)), qaf (below_setRow (K1_1.out.alloc K1_1.out.size _) (by have h1 := K1_0.out.size; have h2 := K1_1.out.size; omega) _)⟩)
 case rest =>
 obtain ⟨g2, rfl, G2, Q2, X2⟩ := hcut
 obtain ⟨W2, hW2⟩ : ∃ W2, W2 = wc := ⟨_, rfl⟩
 subst hW2
 have BL2 : Hid (Below w.heap.size w W2) := BL1.out.trans (X2.out.mono BL1.out.size)
 have Z2 : Hid (w.heap.size + 2 < W2.heap.size) := by show _ < _; have := Z1.out; have := X2.out.size; omega
 replace R0 := qaf (qah R0.out X2.out (qab R0.out))
 replace R1 := qaf (qah R1.out X2.out (qab R1.out))
 replace Q1 := qaf (qah Q1.out X2.out (qab Q1.out))
 replace RZ := qaf (qah RZ.out X2.out Z1.out)
 have N2 : Hid (w.heap.size + 2 < g2) := by show _ < _; have := G2.out; have := Z1.out; omega
 clear X2 BL1 Z1 G2
 have Esv0 := Ecu
 obtain ⟨sv, Esv⟩ : ∃ sv, Hid (sv = svN v) := ⟨_, rfl⟩
 have Hsv : Hid (sv < P) := by rw [Esv.out]; exact qaB _ _
 have Q2n : Hid (W2.heap[g2]? = some (.cells (qac sv) 80 (0, 0))) := by have e := Q2.out; rw [Ecu.out] at e; rw [Esv.out]; exact e
 clear Q2; have Q2 := Q2n; clear Q2n
 go_upto_region 3 with fail
 go_cut [8] from 18 to 25 (fun s wx => ∃ g, s = .pointer (some ⟨g, 0, none⟩) ∧ Hid (W2.heap.size ≤ g) ∧ Hid (wx.heap[g]? = some (.cells (qac (mP (mP u cu) (rpN (mP u sv)))) 80 (0, 0))) ∧ Hid (Below W2.heap.size W2 wx))
 case first =>
  obtain ⟨c_p00, c_p01, c_p02, c_p03⟩ := qan R0.out
  obtain ⟨c_cu0, c_cu1, c_cu2, c_cu3⟩ := qan Q1.out
  obtain ⟨c_sv0, c_sv1, c_sv2, c_sv3⟩ := qan Q2.out
  go_region_held3 (fun w' => C4 w' (w.heap.size) (u) ∧ C4 w' (g1) (cu) ∧ C4 w' (g2) (sv))
   (first | exact ⟨qaM (qap (qai (qan R0.out) K2_3.out (qab R0.out)) _) (by have h0 := qab R0.out; have h1 := K2_0.out.size; have h2 := K2_1.out.size; have h3 := K2_2.out.size; have h4 := K2_3.out.size; have h9 := Z2.out; have n1 := N1.out; have n2 := N2.out; omega), qaM (qap (qai (qan Q1.out) K2_3.out (qab Q1.out)) _) (by have h0 := qab Q1.out; have h1 := K2_0.out.size; have h2 := K2_1.out.size; have h3 := K2_2.out.size; have h4 := K2_3.out.size; have h9 := Z2.out; have n1 := N1.out; have n2 := N2.out; omega), qaM (qap (qai (qan Q2.out) K2_3.out (qab Q2.out)) _) (by have h0 := qab Q2.out; have h1 := K2_0.out.size; have h2 := K2_1.out.size; have h3 := K2_2.out.size; have h4 := K2_3.out.size; have h9 := Z2.out; have n1 := N1.out; have n2 := N2.out; omega)⟩ | exact ⟨qaM (qai (qan R0.out) K2_3.out (qab R0.out)) (by have h0 := qab R0.out; have h1 := K2_0.out.size; have h2 := K2_1.out.size; have h3 := K2_2.out.size; have h4 := K2_3.out.size; have h9 := Z2.out; have n1 := N1.out; have n2 := N2.out; omega), qaM (qai (qan Q1.out) K2_3.out (qab Q1.out)) (by have h0 := qab Q1.out; have h1 := K2_0.out.size; have h2 := K2_1.out.size; have h3 := K2_2.out.size; have h4 := K2_3.out.size; have h9 := Z2.out; have n1 := N1.out; have n2 := N2.out; omega), qaM (qai (qan Q2.out) K2_3.out (qab Q2.out)) (by have h0 := qab Q2.out; have h1 := K2_0.out.size; have h2 := K2_1.out.size; have h3 := K2_2.out.size; have h4 := K2_3.out.size; have h9 := Z2.out; have n1 := N1.out; have n2 := N2.out; omega)⟩ | exact ⟨(qai (qan R0.out) K2_3.out (qab R0.out)), (qai (qan Q1.out) K2_3.out (qab Q1.out)), (qai (qan Q2.out) K2_3.out (qab Q2.out))⟩ | exact ⟨qap (qai (qan R0.out) K2_3.out (qab R0.out)) _, qap (qai (qan Q1.out) K2_3.out (qab Q1.out)) _, qap (qai (qan Q2.out) K2_3.out (qab Q2.out)) _⟩ | exact ⟨(qai (qan R0.out) K2_2.out (qab R0.out)), (qai (qan Q1.out) K2_2.out (qab Q1.out)), (qai (qan Q2.out) K2_2.out (qab Q2.out))⟩ | exact ⟨qap (qai (qan R0.out) K2_2.out (qab R0.out)) _, qap (qai (qan Q1.out) K2_2.out (qab Q1.out)) _, qap (qai (qan Q2.out) K2_2.out (qab Q2.out)) _⟩ | exact ⟨(qai (qan R0.out) K2_1.out (qab R0.out)), (qai (qan Q1.out) K2_1.out (qab Q1.out)), (qai (qan Q2.out) K2_1.out (qab Q2.out))⟩ | exact ⟨qap (qai (qan R0.out) K2_1.out (qab R0.out)) _, qap (qai (qan Q1.out) K2_1.out (qab Q1.out)) _, qap (qai (qan Q2.out) K2_1.out (qab Q2.out)) _⟩ | exact ⟨(qai (qan R0.out) K2_0.out (qab R0.out)), (qai (qan Q1.out) K2_0.out (qab Q1.out)), (qai (qan Q2.out) K2_0.out (qab Q2.out))⟩ | exact ⟨qap (qai (qan R0.out) K2_0.out (qab R0.out)) _, qap (qai (qan Q1.out) K2_0.out (qab Q1.out)) _, qap (qai (qan Q2.out) K2_0.out (qab Q2.out)) _⟩ | exact ⟨qan R0.out, qan Q1.out, qan Q2.out⟩ | exact ⟨qap (w := W2.drew) (qan R0.out) _, qap (w := W2.drew) (qan Q1.out) _, qap (w := W2.drew) (qan Q2.out) _⟩ | go_keep)
   (first
    | (go_at_call 93; (fail_if_success (have zz := K2_0)); refine (qaR u cu Hu.out Hcu.out _).mono ?_; rintro e V2_0 ⟨rfl, HB⟩; have K2_0 : Hid (Below W2.heap.size W2 V2_0) := (by first | exact qaf (qbJ HB) | exact qaf (Below.trans (Below.alloc (Below.drew (Below.refl _ _)) (Nat.le_refl _) _) (HB.mono (by simp)))); (first | (have ZZ := qaf (qao (heap_alloc_new _ (.cells qaw 80)) HB)) | (have ZZ := qaf (qao (w := (W2.alloc (.cells qaw 80)).drew) (heap_alloc_new W2 (.cells qaw 80)) HB)) | (have ZZ := qaf (qao ZZ.out HB)) | skip); clear HB)
    | (go_at_call 93; (fail_if_success (have zz := K2_1)); (have zz := K2_0; clear zz); refine (qaR u sv Hu.out Hsv.out _).mono ?_; rintro e V2_1 ⟨rfl, HB⟩; have K2_1 : Hid (Below W2.heap.size W2 V2_1) := (by first | exact qaf (K2_0.out.trans (HB.mono K2_0.out.size)) | exact qaf ((K2_0.out.alloc K2_0.out.size _).trans (HB.mono (by have := K2_0.out.size; simp; omega)))); (first | (have ZZ := qaf (qao (heap_alloc_new _ (.cells qaw 80)) HB)) | (have ZZ := qaf (qao (w := (W2.alloc (.cells qaw 80)).drew) (heap_alloc_new W2 (.cells qaw 80)) HB)) | (have ZZ := qaf (qao ZZ.out HB)) | skip); clear HB)
    | (go_at_call 171; (fail_if_success (have zz := K2_2)); (have zz := K2_1; clear zz); refine (feRootPower (mP u sv) (qaB _ _) _).mono ?_; rintro e V2_2 ⟨rfl, HB⟩; have K2_2 : Hid (Below W2.heap.size W2 V2_2) := (by first | exact qaf (K2_1.out.trans (HB.mono K2_1.out.size)) | exact qaf ((K2_1.out.alloc K2_1.out.size _).trans (HB.mono (by have := K2_1.out.size; simp; omega)))); (first | (have ZZ := qaf (qao (heap_alloc_new _ (.cells qaw 80)) HB)) | (have ZZ := qaf (qao (w := (W2.alloc (.cells qaw 80)).drew) (heap_alloc_new W2 (.cells qaw 80)) HB)) | (have ZZ := qaf (qao ZZ.out HB)) | skip); clear HB)
    | (go_at_call 93; (fail_if_success (have zz := K2_3)); (have zz := K2_2; clear zz); refine (qaR (mP u cu) (rpN (mP u sv)) (qaB _ _) (rpN_lt _) _).mono ?_; rintro e V2_3 ⟨rfl, HB⟩; have K2_3 : Hid (Below W2.heap.size W2 V2_3) := (by first | exact qaf (K2_2.out.trans (HB.mono K2_2.out.size)) | exact qaf ((K2_2.out.alloc K2_2.out.size _).trans (HB.mono (by have := K2_2.out.size; simp; omega)))); (first | (have ZZ := qaf (qao (heap_alloc_new _ (.cells qaw 80)) HB)) | (have ZZ := qaf (qao (w := (W2.alloc (.cells qaw 80)).drew) (heap_alloc_new W2 (.cells qaw 80)) HB)) | (have ZZ := qaf (qao ZZ.out HB)) | skip); clear HB; (first | (have hst := qau (P := Tryz.prog) (cs := qac (mP (mP u cu) (rpN (mP u sv)))) ZZ.out rfl (qaq _)) | (have hst := qau (P := Tryz.prog) (w := V2_3.alloc (.cells qaw 80)) (cs := qac (mP (mP u cu) (rpN (mP u sv)))) (heap_alloc_new _ _) rfl (qaq _))); have hs4 : (qac (mP (mP u cu) (rpN (mP u sv)))).size = 4 := rfl))
  all_goals (
   clear c_p00 c_p01 c_p02 c_p03
   clear c_cu0 c_cu1 c_cu2 c_cu3
   clear c_sv0 c_sv1 c_sv2 c_sv3
   clear hst hs4
   go_wp2_with fail
   go_meet
   case rel => first | exact ⟨_, rfl, qaf (by have h1 := K2_0.out.size; have h2 := K2_1.out.size; have h3 := K2_2.out.size; have h4 := K2_3.out.size; omega), qaf (setRow_heap _ _ _ _ _ _ ZZ.out), qaf (below_setRow K2_3.out (by have h1 := K2_0.out.size; have h2 := K2_1.out.size; have h3 := K2_2.out.size; have h4 := K2_3.out.size; omega) _)⟩ | exact ⟨_, rfl, qaf (by have h1 := K2_0.out.size; have h2 := K2_1.out.size; have h3 := K2_2.out.size; have h4 := K2_3.out.size; omega), qaf (setRow_heap _ _ _ _ _ _ (heap_alloc_new _ _)), qaf (below_setRow (K2_3.out.alloc K2_3.out.size _) (by have h1 := K2_0.out.size; have h2 := K2_1.out.size; have h3 := K2_2.out.size; have h4 := K2_3.out.size; omega) _)⟩)
 case rest =>
 obtain ⟨g3, rfl, G3, Q3, X3⟩ := hcut
 obtain ⟨W3, hW3⟩ : ∃ W3, W3 = wc := ⟨_, rfl⟩
 subst hW3
 have BL3 : Hid (Below w.heap.size w W3) := BL2.out.trans (X3.out.mono BL2.out.size)
 have Z3 : Hid (w.heap.size + 2 < W3.heap.size) := by show _ < _; have := Z2.out; have := X3.out.size; omega
 replace R0 := qaf (qah R0.out X3.out (qab R0.out))
 replace R1 := qaf (qah R1.out X3.out (qab R1.out))
 replace Q1 := qaf (qah Q1.out X3.out (qab Q1.out))
 replace Q2 := qaf (qah Q2.out X3.out (qab Q2.out))
 replace RZ := qaf (qah RZ.out X3.out Z2.out)
 have N3 : Hid (w.heap.size + 2 < g3) := by show _ < _; have := G3.out; have := Z2.out; omega
 clear X3 BL2 Z2 G3
 obtain ⟨rt, Ert⟩ : ∃ rt, Hid (rt = rtN u v) := ⟨_, rfl⟩
 have Hrt : Hid (rt < P) := by rw [Ert.out]; exact qaB _ _
 have Q3n : Hid (W3.heap[g3]? = some (.cells (qac rt) 80 (0, 0))) := by have e := Q3.out; rw [Ecu.out, Esv.out] at e; rw [Ert.out]; exact e
 clear Q3; have Q3 := Q3n; clear Q3n
 go_upto_region 4 with fail
 go_cut [9] from 26 to 29 (fun s wx => ∃ g, s = .pointer (some ⟨g, 0, none⟩) ∧ Hid (W3.heap.size ≤ g) ∧ Hid (wx.heap[g]? = some (.cells (qac (mP (mP rt rt) v)) 80 (0, 0))) ∧ Hid (Below W3.heap.size W3 wx))
 case first =>
  obtain ⟨c_rt0, c_rt1, c_rt2, c_rt3⟩ := qan Q3.out
  obtain ⟨c_p10, c_p11, c_p12, c_p13⟩ := qan R1.out
  go_region_held3 (fun w' => C4 w' (g3) (rt) ∧ C4 w' (w.heap.size + 1) (v))
   (first | exact ⟨qaM (qap (qai (qan Q3.out) K3_1.out (qab Q3.out)) _) (by have h0 := qab Q3.out; have h1 := K3_0.out.size; have h2 := K3_1.out.size; have h9 := Z3.out; have n1 := N1.out; have n2 := N2.out; have n3 := N3.out; omega), qaM (qap (qai (qan R1.out) K3_1.out (qab R1.out)) _) (by have h0 := qab R1.out; have h1 := K3_0.out.size; have h2 := K3_1.out.size; have h9 := Z3.out; have n1 := N1.out; have n2 := N2.out; have n3 := N3.out; omega)⟩ | exact ⟨qaM (qai (qan Q3.out) K3_1.out (qab Q3.out)) (by have h0 := qab Q3.out; have h1 := K3_0.out.size; have h2 := K3_1.out.size; have h9 := Z3.out; have n1 := N1.out; have n2 := N2.out; have n3 := N3.out; omega), qaM (qai (qan R1.out) K3_1.out (qab R1.out)) (by have h0 := qab R1.out; have h1 := K3_0.out.size; have h2 := K3_1.out.size; have h9 := Z3.out; have n1 := N1.out; have n2 := N2.out; have n3 := N3.out; omega)⟩ | exact ⟨(qai (qan Q3.out) K3_1.out (qab Q3.out)), (qai (qan R1.out) K3_1.out (qab R1.out))⟩ | exact ⟨qap (qai (qan Q3.out) K3_1.out (qab Q3.out)) _, qap (qai (qan R1.out) K3_1.out (qab R1.out)) _⟩ | exact ⟨(qai (qan Q3.out) K3_0.out (qab Q3.out)), (qai (qan R1.out) K3_0.out (qab R1.out))⟩ | exact ⟨qap (qai (qan Q3.out) K3_0.out (qab Q3.out)) _, qap (qai (qan R1.out) K3_0.out (qab R1.out)) _⟩ | exact ⟨qan Q3.out, qan R1.out⟩ | exact ⟨qap (w := W3.drew) (qan Q3.out) _, qap (w := W3.drew) (qan R1.out) _⟩ | go_keep)
   (first
    | (go_at_call 161; (fail_if_success (have zz := K3_0)); refine (qdV rt Hrt.out _).mono ?_; rintro e V3_0 ⟨rfl, HB⟩; have K3_0 : Hid (Below W3.heap.size W3 V3_0) := (by first | exact qaf (qbJ HB) | exact qaf (Below.trans (Below.alloc (Below.drew (Below.refl _ _)) (Nat.le_refl _) _) (HB.mono (by simp)))); (first | (have ZZ := qaf (qao (heap_alloc_new _ (.cells qaw 80)) HB)) | (have ZZ := qaf (qao (w := (W3.alloc (.cells qaw 80)).drew) (heap_alloc_new W3 (.cells qaw 80)) HB)) | (have ZZ := qaf (qao ZZ.out HB)) | skip); clear HB)
    | (go_at_call 93; (fail_if_success (have zz := K3_1)); (have zz := K3_0; clear zz); refine (qaR (mP rt rt) v (qaB _ _) Hv.out _).mono ?_; rintro e V3_1 ⟨rfl, HB⟩; have K3_1 : Hid (Below W3.heap.size W3 V3_1) := (by first | exact qaf (K3_0.out.trans (HB.mono K3_0.out.size)) | exact qaf ((K3_0.out.alloc K3_0.out.size _).trans (HB.mono (by have := K3_0.out.size; simp; omega)))); (first | (have ZZ := qaf (qao (heap_alloc_new _ (.cells qaw 80)) HB)) | (have ZZ := qaf (qao (w := (W3.alloc (.cells qaw 80)).drew) (heap_alloc_new W3 (.cells qaw 80)) HB)) | (have ZZ := qaf (qao ZZ.out HB)) | skip); clear HB; (first | (have hst := qau (P := Tryz.prog) (cs := qac (mP (mP rt rt) v)) ZZ.out rfl (qaq _)) | (have hst := qau (P := Tryz.prog) (w := V3_1.alloc (.cells qaw 80)) (cs := qac (mP (mP rt rt) v)) (heap_alloc_new _ _) rfl (qaq _))); have hs4 : (qac (mP (mP rt rt) v)).size = 4 := rfl))
  all_goals (
   clear c_rt0 c_rt1 c_rt2 c_rt3
   clear c_p10 c_p11 c_p12 c_p13
   clear hst hs4
   go_wp2_with fail
   go_meet
   case rel => first | exact ⟨_, rfl, qaf (by have h1 := K3_0.out.size; have h2 := K3_1.out.size; omega), qaf (setRow_heap _ _ _ _ _ _ ZZ.out), qaf (below_setRow K3_1.out (by have h1 := K3_0.out.size; have h2 := K3_1.out.size; omega) _)⟩ | exact ⟨_, rfl, qaf (by have h1 := K3_0.out.size; have h2 := K3_1.out.size; omega), qaf (setRow_heap _ _ _ _ _ _ (heap_alloc_new _ _)), qaf (below_setRow (K3_1.out.alloc K3_1.out.size _) (by have h1 := K3_0.out.size; have h2 := K3_1.out.size; omega) _)⟩)
 case rest =>
 obtain ⟨g4, rfl, G4, Q4, X4⟩ := hcut
 obtain ⟨W4, hW4⟩ : ∃ W4, W4 = wc := ⟨_, rfl⟩
 subst hW4
 have BL4 : Hid (Below w.heap.size w W4) := BL3.out.trans (X4.out.mono BL3.out.size)
 have Z4 : Hid (w.heap.size + 2 < W4.heap.size) := by show _ < _; have := Z3.out; have := X4.out.size; omega
 replace R0 := qaf (qah R0.out X4.out (qab R0.out))
 replace R1 := qaf (qah R1.out X4.out (qab R1.out))
 replace Q1 := qaf (qah Q1.out X4.out (qab Q1.out))
 replace Q2 := qaf (qah Q2.out X4.out (qab Q2.out))
 replace Q3 := qaf (qah Q3.out X4.out (qab Q3.out))
 replace RZ := qaf (qah RZ.out X4.out Z3.out)
 have N4 : Hid (w.heap.size + 2 < g4) := by show _ < _; have := G4.out; have := Z3.out; omega
 clear X4 BL3 Z3 G4
 obtain ⟨sq, Esq⟩ : ∃ sq, Hid (sq = sqrN u v) := ⟨_, rfl⟩
 have Hsq : Hid (sq < P) := by rw [Esq.out]; exact qaB _ _
 have Q4n : Hid (W4.heap[g4]? = some (.cells (qac sq) 80 (0, 0))) := by have e := Q4.out; rw [Ert.out] at e; rw [Esq.out]; exact e
 clear Q4; have Q4 := Q4n; clear Q4n
 obtain ⟨c0, c1, c2, c3⟩ := qan Q4.out
 obtain ⟨d0, d1, d2, d3⟩ := qan R0.out
 have heq := feEq sq u Hsq.out Hu.out
 by_cases hsu : sq = u
 ·
  rw [decide_eq_true hsu] at heq
  have HY : Hid (sq = u) := hsu
  clear hsu
  go_wp2_with (first
   | (refine wpList_load_row (by rfl) 80 (.tmp 8) (by rfl) g3 (by rfl) 80 (qac rt) (0, 0) _ Q3.out qaI rfl (qaF _) ?_)
   | (refine wpList_store_row (by rfl) 80 (.tmp 4) (.tmp 33) (by rfl) (w.heap.size + 2) (qac rt) (by rfl) (by rfl) 80 _ RZ.out (qaF _) rfl (qaq _) ?_))
  refine bodyPost_ret (v := .tuple #[fe rt, .bool true]) (qas Tryz.results162 _ _ (w.heap.size + 2) 80 (qac rt) (0, 0) _ (by rfl) (setRow_heap _ _ _ _ _ _ RZ.out) qaI rfl (qaF _)) rfl ⟨?_, below_setRow BL4.out (by omega) _⟩
  have h1 : sqrN u v = u := by rw [← Esq.out]; exact HY.out
  unfold qce qcV
  rw [if_pos h1, decide_eq_true (Or.inl h1), ← Ert.out]
 ·
  rw [decide_eq_false hsu] at heq
  have HN : Hid (¬ sqrN u v = u) := by rw [← Esq.out]; exact hsu
  clear hsu
  have heq2 := feEq' sq (sP 0 u) Hsq.out (qbO _ _)
  go_upto_region 7 with fail
  clear heq
  go_region_held3 (fun w' => C4 w' g4 sq ∧ C4 w' w.heap.size u)
   (first | exact ⟨qai (qan Q4.out) KK.out (qab Q4.out), qai (qan R0.out) KK.out (qab R0.out)⟩ | exact ⟨qan Q4.out, qan R0.out⟩ | go_keep)
   (first
    | (go_at_call 119; refine (feMinus0 u Hu.out _).mono ?_; rintro e VV ⟨rfl, HB⟩; have KK : Hid (Below W4.heap.size W4 VV) := qaf (qbJ HB); clear HB))
  clear c0 c1 c2 c3 d0 d1 d2 d3
  have BL5 : Hid (Below w.heap.size w VV) := BL4.out.trans (KK.out.mono BL4.out.size)
  have RZ5 := qaf (qah RZ.out KK.out (qab RZ.out))
  have Q35 := qaf (qah Q3.out KK.out (qab Q3.out))
  have HG5 := qaf (qah HG.out BL5.out h5.out)
  by_cases hs2 : sq = sP 0 u
  ·
   have hd : decide (sq = sP 0 u) = true := decide_eq_true hs2
   have HY : Hid (sqrN u v = sP 0 u) := by rw [← Esq.out]; exact hs2
   clear hs2
   rw [hd]
   clear hd heq2
   go_wp2_with (first
    | (refine wpList_load_row (by rfl) 80 (.tmp 8) (by rfl) g3 (by rfl) 80 (qac rt) (0, 0) _ Q35.out qaI rfl (qaF _) ?_)
    | (refine wpList_load_row (by rfl) 80 (.global 12) (by rfl) 12 (by rfl) T5 (qac rmN) fr5 _ HG5.out qaI rfl (qaF _) ?_))
   refine (qaR rt rmN Hrt.out (by decide) _).mono ?_
   rintro e V6 ⟨rfl, hB6⟩
   have RZ6 := qaf (qao RZ5.out hB6)
   have BL6 : Hid (Below w.heap.size w V6) := BL5.out.trans (hB6.mono BL5.out.size)
   clear hB6
   obtain ⟨x, HX⟩ : ∃ x, Hid (x = mP rt rmN) := ⟨_, rfl⟩
   rw [← HX.out]
   go_wp2_with (first
    | (refine wpList_store_row (by rfl) 80 (.tmp 4) (.tmp 41) (by rfl) (w.heap.size + 2) (qac x) (by rfl) (by rfl) 80 _ RZ6.out (qaF _) rfl (qaq _) ?_))
   refine bodyPost_ret (v := .tuple #[fe x, .bool true]) (qas Tryz.results162 _ _ (w.heap.size + 2) 80 (qac x) (0, 0) _ (by rfl) (setRow_heap _ _ _ _ _ _ RZ6.out) qaI rfl (qaF _)) rfl ⟨?_, below_setRow BL6.out (by omega) _⟩
   unfold qce qcV
   rw [if_neg HN.out, if_pos HY.out, decide_eq_true (Or.inr HY.out), ← Ert.out, ← HX.out]
  ·
   have hd : decide (sq = sP 0 u) = false := decide_eq_false hs2
   have HY : Hid (¬ sqrN u v = sP 0 u) := by rw [← Esq.out]; exact hs2
   clear hs2
   rw [hd]
   clear hd heq2
   go_wp2_with (first
    | (refine wpList_store_row (by rfl) 80 (.tmp 4) (.tmp 42) (by rfl) (w.heap.size + 2) qaw (by rfl) (by rfl) 80 _ RZ5.out qcY rfl zero4_all ?_))
   refine bodyPost_ret (v := .tuple #[.agg qaw, .bool false]) (qas Tryz.results162 _ _ (w.heap.size + 2) 80 qaw (0, 0) _ (by rfl) (setRow_heap _ _ _ _ _ _ RZ5.out) qaI rfl qcY) rfl ⟨?_, below_setRow BL5.out (by omega) _⟩
   unfold qce qcV
   rw [if_neg HN.out, if_neg HY.out, decide_eq_false (fun h => h.elim HN.out HY.out)]
   show Ending.returned (.tuple #[.agg qaw, .bool false]) = .returned (.tuple #[.agg (qac 0), .bool false])
   rw [qdT]
end Go.Proofs.YtccgfabojbjmjaaGreatDoor
