import Derived.Test.YtccgfabojbjmjaaGreatDoorLo10
set_option maxRecDepth 100000
set_option maxHeartbeats 8000000
namespace Go.Proofs.YtccgfabojbjmjaaGreatDoor
open Go.RowKit
open Go.RowKit
def Ql : Nat := 19681161376707505956807079304988542015446066515923890162744021073123829784752
def cbN (v : Nat) : Nat := mP (mP v v) v
def svN (v : Nat) : Nat := mP (mP (cbN v) (cbN v)) v
def Jj (u v : Nat) : Nat := mP (mP u (cbN v)) (Yv (mP u (svN v)))
def QM (u v : Nat) : Nat := mP (mP (Jj u v) (Jj u v)) v
def QB (u v : Nat) : Nat := if QM u v = u then Jj u v else if QM u v = sP 0 u then mP (Jj u v) Ql else 0
def QZ (u v : Nat) : Bool := decide (QM u v = u ∨ QM u v = sP 0 u)
theorem qca (u v : Nat) : QB u v < P := by
 unfold QB; split
 · exact qK _ _
 ·
  split
  · exact qK _ _
  · exact j3
theorem qr8 (u v : Nat) (hu : u < P) (hv : v < P) (T5 : TypeId) (fr5 : Nat × Nat) (w : World) (hG : w.heap[12]? = some (.cells (qb Ql) T5 fr5)) :
  zC 162 #[fe u, fe v] w (.tuple #[fe (QB u v), .bool (QZ u v)]) := by
 have Hu := qa hu
 have Hv := qa hv
 clear hu hv
 have HG := qa hG
 have h5 : Hid (12 < w.heap.size) := qm hG
 clear hG
 go_enter Tryz.func162, Tryz.ntmps162
 go_wp2_with fail
 obtain ⟨W0, hW0⟩ := zy ((((w.alloc (.cells (qb u) 80)).alloc (.cells (qb v) 80)).alloc (.cells qD 80)))
 rw [← hW0]
 have R0 : Hid (qi W0 w.heap.size (qb u) 80) := by rw [hW0]; exact qus _ _ _ _
 have R1 : Hid (qi W0 (w.heap.size + 1) (qb v) 80) := by rw [hW0]; exact quI _ _ _ _
 have RZ : Hid (qi W0 (w.heap.size + 2) qD 80) := by rw [hW0]; exact qvf _ _ _ _
 have BL0 : Hid (zB w W0) := by rw [hW0]; show Below _ _ _; go_grown
 have Z0 : Hid (w.heap.size + 2 < W0.heap.size) := qm RZ.o
 clear hW0
 go_upto_region 1 with fail
 go_cut [6] from 10 to 13 (fun s wx => ∃ g, s = zp g 0 ∧ Hid (W0.heap.size ≤ g) ∧ Hid (qi wx g ((qb (mP (mP v v) v))) 80) ∧ Hid (zB W0 wx))
 case first =>
  obtain ⟨c_p10, c_p11, c_p12, c_p13⟩ := qn R1.o
  go_region_held3 (fun w' => C4 w' (w.heap.size + 1) (v))
   (first | exact jj (qN (qr (qn R1.o) K0_1.o (qm R1.o)) _) (by have h0 := qm R1.o; have h1 := K0_0.o.size; have h2 := K0_1.o.size; have h9 := Z0.o; omega) | exact jj (qr (qn R1.o) K0_1.o (qm R1.o)) (by have h0 := qm R1.o; have h1 := K0_0.o.size; have h2 := K0_1.o.size; have h9 := Z0.o; omega) | exact (qr (qn R1.o) K0_1.o (qm R1.o)) | exact qN (qr (qn R1.o) K0_1.o (qm R1.o)) _ | exact (qr (qn R1.o) K0_0.o (qm R1.o)) | exact qN (qr (qn R1.o) K0_0.o (qm R1.o)) _ | exact qn R1.o | exact qN (w := W0.drew) (qn R1.o) _ | go_keep)
   (first
    | (go_at_call 161; (fail_if_success (have zz := K0_0)); refine (qbv v Hv.o _).mono ?_; rintro e V0_0 ⟨rfl, HB⟩; have K0_0 : Hid (zB W0 V0_0) := (by first | exact qa (Zt HB) | exact qa (Below.trans (Below.alloc (Below.drew (zJ _ _)) (zm _) _) (HB.mono (by simp)))); (first | (have ZZ := qa (qM (za _ (.cells qD 80)) HB)) | (have ZZ := qa (qM (w := (W0.alloc (.cells qD 80)).drew) (za W0 (.cells qD 80)) HB)) | (have ZZ := qa (qM ZZ.o HB)) | skip); clear HB)
    | (go_at_call 93; (fail_if_success (have zz := K0_1)); (have zz := K0_0; clear zz); refine (jF (mP v v) v (qK _ _) Hv.o _).mono ?_; rintro e V0_1 ⟨rfl, HB⟩; have K0_1 : Hid (zB W0 V0_1) := (by first | exact qa (K0_0.o.trans (HB.mono K0_0.o.size)) | exact qa ((K0_0.o.alloc K0_0.o.size _).trans (HB.mono (by have := K0_0.o.size; simp; omega)))); (first | (have ZZ := qa (qM (za _ (.cells qD 80)) HB)) | (have ZZ := qa (qM (w := (W0.alloc (.cells qD 80)).drew) (za W0 (.cells qD 80)) HB)) | (have ZZ := qa (qM ZZ.o HB)) | skip); clear HB; (first | (have hst := jP (P := Tryz.prog) (cs := qb (mP (mP v v) v)) ZZ.o rfl (qY _)) | (have hst := jP (P := Tryz.prog) (w := V0_1.alloc (.cells qD 80)) (cs := qb (mP (mP v v) v)) (za _ _) rfl (qY _))); have hs4 : (qb (mP (mP v v) v)).size = 4 := rfl))
  all_goals (
   clear c_p10 c_p11 c_p12 c_p13
   clear hst hs4
   go_wp2_with fail
   go_meet
   case rel => first | exact ⟨_, rfl, qa (by have h1 := K0_0.o.size; have h2 := K0_1.o.size; omega), qa (zd _ _ _ _ _ _ ZZ.o), qa (ze K0_1.o (by have h1 := K0_0.o.size; have h2 := K0_1.o.size; omega) _)⟩ | exact ⟨_, rfl, qa (by have h1 := K0_0.o.size; have h2 := K0_1.o.size; omega), qa (zd _ _ _ _ _ _ (za _ _)), qa (ze (K0_1.o.alloc K0_1.o.size _) (by have h1 := K0_0.o.size; have h2 := K0_1.o.size; omega) _)⟩)
 case rest =>
 obtain ⟨g1, rfl, G1, Q1, X1⟩ := hcut
 obtain ⟨W1, hW1⟩ := zy wc
 subst hW1
 have BL1 : Hid (zB w W1) := BL0.o.trans (X1.o.mono BL0.o.size)
 have Z1 : Hid (w.heap.size + 2 < W1.heap.size) := by show _ < _; have := Z0.o; have := X1.o.size; omega
 replace R0 := qa (qs R0.o X1.o (qm R0.o))
 replace R1 := qa (qs R1.o X1.o (qm R1.o))
 replace RZ := qa (qs RZ.o X1.o Z0.o)
 have N1 : Hid (w.heap.size + 2 < g1) := by show _ < _; have := G1.o; have := Z0.o; omega
 clear X1 BL0 Z0 G1
 obtain ⟨cu, Ecu⟩ := zx (cbN v)
 have Hcu : Hid (cu < P) := by rw [Ecu.o]; exact qK _ _
 have Q1n : Hid (qi W1 g1 (qb cu) 80) := by rw [Ecu.o]; exact Q1
 clear Q1; have Q1 := Q1n; clear Q1n
 go_upto_region 2 with fail
 go_cut [7] from 14 to 17 (fun s wx => ∃ g, s = zp g 0 ∧ Hid (W1.heap.size ≤ g) ∧ Hid (qi wx g ((qb (mP (mP cu cu) v))) 80) ∧ Hid (zB W1 wx))
 case first =>
  obtain ⟨c_cu0, c_cu1, c_cu2, c_cu3⟩ := qn Q1.o
  obtain ⟨c_p10, c_p11, c_p12, c_p13⟩ := qn R1.o
  go_region_held3 (fun w' => C4 w' (g1) (cu) ∧ C4 w' (w.heap.size + 1) (v))
   (first | exact ⟨jj (qN (qr (qn Q1.o) K1_1.o (qm Q1.o)) _) (by have h0 := qm Q1.o; have h1 := K1_0.o.size; have h2 := K1_1.o.size; have h9 := Z1.o; have n1 := N1.o; omega), jj (qN (qr (qn R1.o) K1_1.o (qm R1.o)) _) (by have h0 := qm R1.o; have h1 := K1_0.o.size; have h2 := K1_1.o.size; have h9 := Z1.o; have n1 := N1.o; omega)⟩ | exact ⟨jj (qr (qn Q1.o) K1_1.o (qm Q1.o)) (by have h0 := qm Q1.o; have h1 := K1_0.o.size; have h2 := K1_1.o.size; have h9 := Z1.o; have n1 := N1.o; omega), jj (qr (qn R1.o) K1_1.o (qm R1.o)) (by have h0 := qm R1.o; have h1 := K1_0.o.size; have h2 := K1_1.o.size; have h9 := Z1.o; have n1 := N1.o; omega)⟩ | exact ⟨(qr (qn Q1.o) K1_1.o (qm Q1.o)), (qr (qn R1.o) K1_1.o (qm R1.o))⟩ | exact ⟨qN (qr (qn Q1.o) K1_1.o (qm Q1.o)) _, qN (qr (qn R1.o) K1_1.o (qm R1.o)) _⟩ | exact ⟨(qr (qn Q1.o) K1_0.o (qm Q1.o)), (qr (qn R1.o) K1_0.o (qm R1.o))⟩ | exact ⟨qN (qr (qn Q1.o) K1_0.o (qm Q1.o)) _, qN (qr (qn R1.o) K1_0.o (qm R1.o)) _⟩ | exact ⟨qn Q1.o, qn R1.o⟩ | exact ⟨qN (w := W1.drew) (qn Q1.o) _, qN (w := W1.drew) (qn R1.o) _⟩ | go_keep)
   (first
    | (go_at_call 161; (fail_if_success (have zz := K1_0)); refine (qbv cu Hcu.o _).mono ?_; rintro e V1_0 ⟨rfl, HB⟩; have K1_0 : Hid (zB W1 V1_0) := (by first | exact qa (Zt HB) | exact qa (Below.trans (Below.alloc (Below.drew (zJ _ _)) (zm _) _) (HB.mono (by simp)))); (first | (have ZZ := qa (qM (za _ (.cells qD 80)) HB)) | (have ZZ := qa (qM (w := (W1.alloc (.cells qD 80)).drew) (za W1 (.cells qD 80)) HB)) | (have ZZ := qa (qM ZZ.o HB)) | skip); clear HB)
    | (go_at_call 93; (fail_if_success (have zz := K1_1)); (have zz := K1_0; clear zz); refine (jF (mP cu cu) v (qK _ _) Hv.o _).mono ?_; rintro e V1_1 ⟨rfl, HB⟩; have K1_1 : Hid (zB W1 V1_1) := (by first | exact qa (K1_0.o.trans (HB.mono K1_0.o.size)) | exact qa ((K1_0.o.alloc K1_0.o.size _).trans (HB.mono (by have := K1_0.o.size; simp; omega)))); (first | (have ZZ := qa (qM (za _ (.cells qD 80)) HB)) | (have ZZ := qa (qM (w := (W1.alloc (.cells qD 80)).drew) (za W1 (.cells qD 80)) HB)) | (have ZZ := qa (qM ZZ.o HB)) | skip); clear HB; (first | (have hst := jP (P := Tryz.prog) (cs := qb (mP (mP cu cu) v)) ZZ.o rfl (qY _)) | (have hst := jP (P := Tryz.prog) (w := V1_1.alloc (.cells qD 80)) (cs := qb (mP (mP cu cu) v)) (za _ _) rfl (qY _))); have hs4 : (qb (mP (mP cu cu) v)).size = 4 := rfl))
  all_goals (
   clear c_cu0 c_cu1 c_cu2 c_cu3
   clear c_p10 c_p11 c_p12 c_p13
   clear hst hs4
   go_wp2_with fail
   go_meet
   case rel => first | exact ⟨_, rfl, qa (by have h1 := K1_0.o.size; have h2 := K1_1.o.size; omega), qa (zd _ _ _ _ _ _ ZZ.o), qa (ze K1_1.o (by have h1 := K1_0.o.size; have h2 := K1_1.o.size; omega) _)⟩ | exact ⟨_, rfl, qa (by have h1 := K1_0.o.size; have h2 := K1_1.o.size; omega), qa (zd _ _ _ _ _ _ (za _ _)), qa (ze (K1_1.o.alloc K1_1.o.size _) (by have h1 := K1_0.o.size; have h2 := K1_1.o.size; omega) _)⟩)
 case rest =>
 obtain ⟨g2, rfl, G2, Q2, X2⟩ := hcut
 obtain ⟨W2, hW2⟩ := zy wc
 subst hW2
 have BL2 : Hid (zB w W2) := BL1.o.trans (X2.o.mono BL1.o.size)
 have Z2 : Hid (w.heap.size + 2 < W2.heap.size) := by show _ < _; have := Z1.o; have := X2.o.size; omega
 replace R0 := qa (qs R0.o X2.o (qm R0.o))
 replace R1 := qa (qs R1.o X2.o (qm R1.o))
 replace Q1 := qa (qs Q1.o X2.o (qm Q1.o))
 replace RZ := qa (qs RZ.o X2.o Z1.o)
 have N2 : Hid (w.heap.size + 2 < g2) := by show _ < _; have := G2.o; have := Z1.o; omega
 clear X2 BL1 Z1 G2
 have Esv0 := Ecu
 obtain ⟨sv, Esv⟩ := zx (svN v)
 have Hsv : Hid (sv < P) := by rw [Esv.o]; exact qK _ _
 have Q2n : Hid (qi W2 g2 (qb sv) 80) := by have e := Q2.o; rw [Ecu.o] at e; rw [Esv.o]; exact e
 clear Q2; have Q2 := Q2n; clear Q2n
 go_upto_region 3 with fail
 go_cut [8] from 18 to 25 (fun s wx => ∃ g, s = zp g 0 ∧ Hid (W2.heap.size ≤ g) ∧ Hid (wx.heap[g]? = some (.cells (qb (mP (mP u cu) (Yv (mP u sv)))) 80)) ∧ Hid (zB W2 wx))
 case first =>
  obtain ⟨c_p00, c_p01, c_p02, c_p03⟩ := qn R0.o
  obtain ⟨c_cu0, c_cu1, c_cu2, c_cu3⟩ := qn Q1.o
  obtain ⟨c_sv0, c_sv1, c_sv2, c_sv3⟩ := qn Q2.o
  go_region_held3 (fun w' => C4 w' (w.heap.size) (u) ∧ C4 w' (g1) (cu) ∧ C4 w' (g2) (sv))
   (first | exact ⟨jj (qN (qr (qn R0.o) K2_3.o (qm R0.o)) _) (by have h0 := qm R0.o; have h1 := K2_0.o.size; have h2 := K2_1.o.size; have h3 := K2_2.o.size; have h4 := K2_3.o.size; have h9 := Z2.o; have n1 := N1.o; have n2 := N2.o; omega), jj (qN (qr (qn Q1.o) K2_3.o (qm Q1.o)) _) (by have h0 := qm Q1.o; have h1 := K2_0.o.size; have h2 := K2_1.o.size; have h3 := K2_2.o.size; have h4 := K2_3.o.size; have h9 := Z2.o; have n1 := N1.o; have n2 := N2.o; omega), jj (qN (qr (qn Q2.o) K2_3.o (qm Q2.o)) _) (by have h0 := qm Q2.o; have h1 := K2_0.o.size; have h2 := K2_1.o.size; have h3 := K2_2.o.size; have h4 := K2_3.o.size; have h9 := Z2.o; have n1 := N1.o; have n2 := N2.o; omega)⟩ | exact ⟨jj (qr (qn R0.o) K2_3.o (qm R0.o)) (by have h0 := qm R0.o; have h1 := K2_0.o.size; have h2 := K2_1.o.size; have h3 := K2_2.o.size; have h4 := K2_3.o.size; have h9 := Z2.o; have n1 := N1.o; have n2 := N2.o; omega), jj (qr (qn Q1.o) K2_3.o (qm Q1.o)) (by have h0 := qm Q1.o; have h1 := K2_0.o.size; have h2 := K2_1.o.size; have h3 := K2_2.o.size; have h4 := K2_3.o.size; have h9 := Z2.o; have n1 := N1.o; have n2 := N2.o; omega), jj (qr (qn Q2.o) K2_3.o (qm Q2.o)) (by have h0 := qm Q2.o; have h1 := K2_0.o.size; have h2 := K2_1.o.size; have h3 := K2_2.o.size; have h4 := K2_3.o.size; have h9 := Z2.o; have n1 := N1.o; have n2 := N2.o; omega)⟩ | exact ⟨(qr (qn R0.o) K2_3.o (qm R0.o)), (qr (qn Q1.o) K2_3.o (qm Q1.o)), (qr (qn Q2.o) K2_3.o (qm Q2.o))⟩ | exact ⟨qN (qr (qn R0.o) K2_3.o (qm R0.o)) _, qN (qr (qn Q1.o) K2_3.o (qm Q1.o)) _, qN (qr (qn Q2.o) K2_3.o (qm Q2.o)) _⟩ | exact ⟨(qr (qn R0.o) K2_2.o (qm R0.o)), (qr (qn Q1.o) K2_2.o (qm Q1.o)), (qr (qn Q2.o) K2_2.o (qm Q2.o))⟩ | exact ⟨qN (qr (qn R0.o) K2_2.o (qm R0.o)) _, qN (qr (qn Q1.o) K2_2.o (qm Q1.o)) _, qN (qr (qn Q2.o) K2_2.o (qm Q2.o)) _⟩ | exact ⟨(qr (qn R0.o) K2_1.o (qm R0.o)), (qr (qn Q1.o) K2_1.o (qm Q1.o)), (qr (qn Q2.o) K2_1.o (qm Q2.o))⟩ | exact ⟨qN (qr (qn R0.o) K2_1.o (qm R0.o)) _, qN (qr (qn Q1.o) K2_1.o (qm Q1.o)) _, qN (qr (qn Q2.o) K2_1.o (qm Q2.o)) _⟩ | exact ⟨(qr (qn R0.o) K2_0.o (qm R0.o)), (qr (qn Q1.o) K2_0.o (qm Q1.o)), (qr (qn Q2.o) K2_0.o (qm Q2.o))⟩ | exact ⟨qN (qr (qn R0.o) K2_0.o (qm R0.o)) _, qN (qr (qn Q1.o) K2_0.o (qm Q1.o)) _, qN (qr (qn Q2.o) K2_0.o (qm Q2.o)) _⟩ | exact ⟨qn R0.o, qn Q1.o, qn Q2.o⟩ | exact ⟨qN (w := W2.drew) (qn R0.o) _, qN (w := W2.drew) (qn Q1.o) _, qN (w := W2.drew) (qn Q2.o) _⟩ | go_keep)
   (first
    | (go_at_call 93; (fail_if_success (have zz := K2_0)); refine (jF u cu Hu.o Hcu.o _).mono ?_; rintro e V2_0 ⟨rfl, HB⟩; have K2_0 : Hid (zB W2 V2_0) := (by first | exact qa (Zt HB) | exact qa (Below.trans (Below.alloc (Below.drew (zJ _ _)) (zm _) _) (HB.mono (by simp)))); (first | (have ZZ := qa (qM (za _ (.cells qD 80)) HB)) | (have ZZ := qa (qM (w := (W2.alloc (.cells qD 80)).drew) (za W2 (.cells qD 80)) HB)) | (have ZZ := qa (qM ZZ.o HB)) | skip); clear HB)
    | (go_at_call 93; (fail_if_success (have zz := K2_1)); (have zz := K2_0; clear zz); refine (jF u sv Hu.o Hsv.o _).mono ?_; rintro e V2_1 ⟨rfl, HB⟩; have K2_1 : Hid (zB W2 V2_1) := (by first | exact qa (K2_0.o.trans (HB.mono K2_0.o.size)) | exact qa ((K2_0.o.alloc K2_0.o.size _).trans (HB.mono (by have := K2_0.o.size; simp; omega)))); (first | (have ZZ := qa (qM (za _ (.cells qD 80)) HB)) | (have ZZ := qa (qM (w := (W2.alloc (.cells qD 80)).drew) (za W2 (.cells qD 80)) HB)) | (have ZZ := qa (qM ZZ.o HB)) | skip); clear HB)
    | (go_at_call 171; (fail_if_success (have zz := K2_2)); (have zz := K2_1; clear zz); refine (qht (mP u sv) (qK _ _) _).mono ?_; rintro e V2_2 ⟨rfl, HB⟩; have K2_2 : Hid (zB W2 V2_2) := (by first | exact qa (K2_1.o.trans (HB.mono K2_1.o.size)) | exact qa ((K2_1.o.alloc K2_1.o.size _).trans (HB.mono (by have := K2_1.o.size; simp; omega)))); (first | (have ZZ := qa (qM (za _ (.cells qD 80)) HB)) | (have ZZ := qa (qM (w := (W2.alloc (.cells qD 80)).drew) (za W2 (.cells qD 80)) HB)) | (have ZZ := qa (qM ZZ.o HB)) | skip); clear HB)
    | (go_at_call 93; (fail_if_success (have zz := K2_3)); (have zz := K2_2; clear zz); refine (jF (mP u cu) (Yv (mP u sv)) (qK _ _) (qps _) _).mono ?_; rintro e V2_3 ⟨rfl, HB⟩; have K2_3 : Hid (zB W2 V2_3) := (by first | exact qa (K2_2.o.trans (HB.mono K2_2.o.size)) | exact qa ((K2_2.o.alloc K2_2.o.size _).trans (HB.mono (by have := K2_2.o.size; simp; omega)))); (first | (have ZZ := qa (qM (za _ (.cells qD 80)) HB)) | (have ZZ := qa (qM (w := (W2.alloc (.cells qD 80)).drew) (za W2 (.cells qD 80)) HB)) | (have ZZ := qa (qM ZZ.o HB)) | skip); clear HB; (first | (have hst := jP (P := Tryz.prog) (cs := qb (mP (mP u cu) (Yv (mP u sv)))) ZZ.o rfl (qY _)) | (have hst := jP (P := Tryz.prog) (w := V2_3.alloc (.cells qD 80)) (cs := qb (mP (mP u cu) (Yv (mP u sv)))) (za _ _) rfl (qY _))); have hs4 : (qb (mP (mP u cu) (Yv (mP u sv)))).size = 4 := rfl))
  all_goals (
   clear c_p00 c_p01 c_p02 c_p03
   clear c_cu0 c_cu1 c_cu2 c_cu3
   clear c_sv0 c_sv1 c_sv2 c_sv3
   clear hst hs4
   go_wp2_with fail
   go_meet
   case rel => first | exact ⟨_, rfl, qa (by have h1 := K2_0.o.size; have h2 := K2_1.o.size; have h3 := K2_2.o.size; have h4 := K2_3.o.size; omega), qa (zd _ _ _ _ _ _ ZZ.o), qa (ze K2_3.o (by have h1 := K2_0.o.size; have h2 := K2_1.o.size; have h3 := K2_2.o.size; have h4 := K2_3.o.size; omega) _)⟩ | exact ⟨_, rfl, qa (by have h1 := K2_0.o.size; have h2 := K2_1.o.size; have h3 := K2_2.o.size; have h4 := K2_3.o.size; omega), qa (zd _ _ _ _ _ _ (za _ _)), qa (ze (K2_3.o.alloc K2_3.o.size _) (by have h1 := K2_0.o.size; have h2 := K2_1.o.size; have h3 := K2_2.o.size; have h4 := K2_3.o.size; omega) _)⟩)
 case rest =>
 obtain ⟨g3, rfl, G3, Q3, X3⟩ := hcut
 obtain ⟨W3, hW3⟩ := zy wc
 subst hW3
 have BL3 : Hid (zB w W3) := BL2.o.trans (X3.o.mono BL2.o.size)
 have Z3 : Hid (w.heap.size + 2 < W3.heap.size) := by show _ < _; have := Z2.o; have := X3.o.size; omega
 replace R0 := qa (qs R0.o X3.o (qm R0.o))
 replace R1 := qa (qs R1.o X3.o (qm R1.o))
 replace Q1 := qa (qs Q1.o X3.o (qm Q1.o))
 replace Q2 := qa (qs Q2.o X3.o (qm Q2.o))
 replace RZ := qa (qs RZ.o X3.o Z2.o)
 have N3 : Hid (w.heap.size + 2 < g3) := by show _ < _; have := G3.o; have := Z2.o; omega
 clear X3 BL2 Z2 G3
 obtain ⟨rt, Ert⟩ := zx (Jj u v)
 have Hrt : Hid (rt < P) := by rw [Ert.o]; exact qK _ _
 have Q3n : Hid (qi W3 g3 (qb rt) 80) := by have e := Q3.o; rw [Ecu.o, Esv.o] at e; rw [Ert.o]; exact e
 clear Q3; have Q3 := Q3n; clear Q3n
 go_upto_region 4 with fail
 go_cut [9] from 26 to 29 (fun s wx => ∃ g, s = zp g 0 ∧ Hid (W3.heap.size ≤ g) ∧ Hid (qi wx g ((qb (mP (mP rt rt) v))) 80) ∧ Hid (zB W3 wx))
 case first =>
  obtain ⟨c_rt0, c_rt1, c_rt2, c_rt3⟩ := qn Q3.o
  obtain ⟨c_p10, c_p11, c_p12, c_p13⟩ := qn R1.o
  go_region_held3 (fun w' => C4 w' (g3) (rt) ∧ C4 w' (w.heap.size + 1) (v))
   (first | exact ⟨jj (qN (qr (qn Q3.o) K3_1.o (qm Q3.o)) _) (by have h0 := qm Q3.o; have h1 := K3_0.o.size; have h2 := K3_1.o.size; have h9 := Z3.o; have n1 := N1.o; have n2 := N2.o; have n3 := N3.o; omega), jj (qN (qr (qn R1.o) K3_1.o (qm R1.o)) _) (by have h0 := qm R1.o; have h1 := K3_0.o.size; have h2 := K3_1.o.size; have h9 := Z3.o; have n1 := N1.o; have n2 := N2.o; have n3 := N3.o; omega)⟩ | exact ⟨jj (qr (qn Q3.o) K3_1.o (qm Q3.o)) (by have h0 := qm Q3.o; have h1 := K3_0.o.size; have h2 := K3_1.o.size; have h9 := Z3.o; have n1 := N1.o; have n2 := N2.o; have n3 := N3.o; omega), jj (qr (qn R1.o) K3_1.o (qm R1.o)) (by have h0 := qm R1.o; have h1 := K3_0.o.size; have h2 := K3_1.o.size; have h9 := Z3.o; have n1 := N1.o; have n2 := N2.o; have n3 := N3.o; omega)⟩ | exact ⟨(qr (qn Q3.o) K3_1.o (qm Q3.o)), (qr (qn R1.o) K3_1.o (qm R1.o))⟩ | exact ⟨qN (qr (qn Q3.o) K3_1.o (qm Q3.o)) _, qN (qr (qn R1.o) K3_1.o (qm R1.o)) _⟩ | exact ⟨(qr (qn Q3.o) K3_0.o (qm Q3.o)), (qr (qn R1.o) K3_0.o (qm R1.o))⟩ | exact ⟨qN (qr (qn Q3.o) K3_0.o (qm Q3.o)) _, qN (qr (qn R1.o) K3_0.o (qm R1.o)) _⟩ | exact ⟨qn Q3.o, qn R1.o⟩ | exact ⟨qN (w := W3.drew) (qn Q3.o) _, qN (w := W3.drew) (qn R1.o) _⟩ | go_keep)
   (first
    | (go_at_call 161; (fail_if_success (have zz := K3_0)); refine (qbv rt Hrt.o _).mono ?_; rintro e V3_0 ⟨rfl, HB⟩; have K3_0 : Hid (zB W3 V3_0) := (by first | exact qa (Zt HB) | exact qa (Below.trans (Below.alloc (Below.drew (zJ _ _)) (zm _) _) (HB.mono (by simp)))); (first | (have ZZ := qa (qM (za _ (.cells qD 80)) HB)) | (have ZZ := qa (qM (w := (W3.alloc (.cells qD 80)).drew) (za W3 (.cells qD 80)) HB)) | (have ZZ := qa (qM ZZ.o HB)) | skip); clear HB)
    | (go_at_call 93; (fail_if_success (have zz := K3_1)); (have zz := K3_0; clear zz); refine (jF (mP rt rt) v (qK _ _) Hv.o _).mono ?_; rintro e V3_1 ⟨rfl, HB⟩; have K3_1 : Hid (zB W3 V3_1) := (by first | exact qa (K3_0.o.trans (HB.mono K3_0.o.size)) | exact qa ((K3_0.o.alloc K3_0.o.size _).trans (HB.mono (by have := K3_0.o.size; simp; omega)))); (first | (have ZZ := qa (qM (za _ (.cells qD 80)) HB)) | (have ZZ := qa (qM (w := (W3.alloc (.cells qD 80)).drew) (za W3 (.cells qD 80)) HB)) | (have ZZ := qa (qM ZZ.o HB)) | skip); clear HB; (first | (have hst := jP (P := Tryz.prog) (cs := qb (mP (mP rt rt) v)) ZZ.o rfl (qY _)) | (have hst := jP (P := Tryz.prog) (w := V3_1.alloc (.cells qD 80)) (cs := qb (mP (mP rt rt) v)) (za _ _) rfl (qY _))); have hs4 : (qb (mP (mP rt rt) v)).size = 4 := rfl))
  all_goals (
   clear c_rt0 c_rt1 c_rt2 c_rt3
   clear c_p10 c_p11 c_p12 c_p13
   clear hst hs4
   go_wp2_with fail
   go_meet
   case rel => first | exact ⟨_, rfl, qa (by have h1 := K3_0.o.size; have h2 := K3_1.o.size; omega), qa (zd _ _ _ _ _ _ ZZ.o), qa (ze K3_1.o (by have h1 := K3_0.o.size; have h2 := K3_1.o.size; omega) _)⟩ | exact ⟨_, rfl, qa (by have h1 := K3_0.o.size; have h2 := K3_1.o.size; omega), qa (zd _ _ _ _ _ _ (za _ _)), qa (ze (K3_1.o.alloc K3_1.o.size _) (by have h1 := K3_0.o.size; have h2 := K3_1.o.size; omega) _)⟩)
 case rest =>
 obtain ⟨g4, rfl, G4, Q4, X4⟩ := hcut
 obtain ⟨W4, hW4⟩ := zy wc
 subst hW4
 have BL4 : Hid (zB w W4) := BL3.o.trans (X4.o.mono BL3.o.size)
 have Z4 : Hid (w.heap.size + 2 < W4.heap.size) := by show _ < _; have := Z3.o; have := X4.o.size; omega
 replace R0 := qa (qs R0.o X4.o (qm R0.o))
 replace R1 := qa (qs R1.o X4.o (qm R1.o))
 replace Q1 := qa (qs Q1.o X4.o (qm Q1.o))
 replace Q2 := qa (qs Q2.o X4.o (qm Q2.o))
 replace Q3 := qa (qs Q3.o X4.o (qm Q3.o))
 replace RZ := qa (qs RZ.o X4.o Z3.o)
 have N4 : Hid (w.heap.size + 2 < g4) := by show _ < _; have := G4.o; have := Z3.o; omega
 clear X4 BL3 Z3 G4
 obtain ⟨sq, Esq⟩ := zx (QM u v)
 have Hsq : Hid (sq < P) := by rw [Esq.o]; exact qK _ _
 have Q4n : Hid (qi W4 g4 (qb sq) 80) := by have e := Q4.o; rw [Ert.o] at e; rw [Esq.o]; exact e
 clear Q4; have Q4 := Q4n; clear Q4n
 obtain ⟨c0, c1, c2, c3⟩ := qn Q4.o
 obtain ⟨d0, d1, d2, d3⟩ := qn R0.o
 have heq := qvE sq u Hsq.o Hu.o
 by_cases hsu : sq = u
 ·
  rw [zN hsu] at heq
  have HY : Hid (sq = u) := hsu
  clear hsu
  go_wp2_with (first
   | (refine zL 80 (.tmp 8) g3 (qb rt) Q3.o jC (jc _) ?_)
   | (refine qB 80 (.tmp 4) (.tmp 33) (w.heap.size + 2) (qb rt) RZ.o (jc _) rfl (qY _) ?_))
  refine zh (v := .tuple #[fe rt, .bool true]) (jJ Tryz.results162 _ _ (w.heap.size + 2) 80 (qb rt) (0, 0) _ (by rfl) (zd _ _ _ _ _ _ RZ.o) jC rfl (jc _)) rfl ⟨?_, ze BL4.o (by omega) _⟩
  have h1 : QM u v = u := by rw [← Esq.o]; exact HY.o
  unfold QB QZ
  rw [if_pos h1, zN (Or.inl h1), ← Ert.o]
 ·
  rw [zD hsu] at heq
  have HN : Hid (¬ QM u v = u) := by rw [← Esq.o]; exact hsu
  clear hsu
  have heq2 := qu7 sq (sP 0 u) Hsq.o (jR _ _)
  go_upto_region 7 with fail
  clear heq
  go_region_held3 (fun w' => C4 w' g4 sq ∧ C4 w' w.heap.size u)
   (first | exact ⟨qr (qn Q4.o) KK.o (qm Q4.o), qr (qn R0.o) KK.o (qm R0.o)⟩ | exact ⟨qn Q4.o, qn R0.o⟩ | go_keep)
   (first
    | (go_at_call 119; refine (qhS u Hu.o _).mono ?_; rintro e VV ⟨rfl, HB⟩; have KK : Hid (zB W4 VV) := qa (Zt HB); clear HB))
  clear c0 c1 c2 c3 d0 d1 d2 d3
  have BL5 : Hid (zB w VV) := BL4.o.trans (KK.o.mono BL4.o.size)
  have RZ5 := qa (qs RZ.o KK.o (qm RZ.o))
  have Q35 := qa (qs Q3.o KK.o (qm Q3.o))
  have HG5 := qa (qs HG.o BL5.o h5.o)
  by_cases hs2 : sq = sP 0 u
  ·
   have hd : decide (sq = sP 0 u) = true := zN hs2
   have HY : Hid (QM u v = sP 0 u) := by rw [← Esq.o]; exact hs2
   clear hs2
   rw [hd]
   clear hd heq2
   go_wp2_with (first
    | (refine zL 80 (.tmp 8) g3 (qb rt) Q35.o jC (jc _) ?_)
    | (refine zg (by rfl) 80 (.global 12) (by rfl) 12 (by rfl) T5 (qb Ql) fr5 _ HG5.o jC rfl (jc _) ?_))
   refine (jF rt Ql Hrt.o (by decide) _).mono ?_
   rintro e V6 ⟨rfl, hB6⟩
   have RZ6 := qa (qM RZ5.o hB6)
   have BL6 : Hid (zB w V6) := BL5.o.trans (hB6.mono BL5.o.size)
   clear hB6
   obtain ⟨x, HX⟩ := zx (mP rt Ql)
   rw [← HX.o]
   go_wp2_with (first
    | (refine qB 80 (.tmp 4) (.tmp 41) (w.heap.size + 2) (qb x) RZ6.o (jc _) rfl (qY _) ?_))
   refine zh (v := .tuple #[fe x, .bool true]) (jJ Tryz.results162 _ _ (w.heap.size + 2) 80 (qb x) (0, 0) _ (by rfl) (zd _ _ _ _ _ _ RZ6.o) jC rfl (jc _)) rfl ⟨?_, ze BL6.o (by omega) _⟩
   unfold QB QZ
   rw [if_neg HN.o, if_pos HY.o, zN (Or.inr HY.o), ← Ert.o, ← HX.o]
  ·
   have hd : decide (sq = sP 0 u) = false := zD hs2
   have HY : Hid (¬ QM u v = sP 0 u) := by rw [← Esq.o]; exact hs2
   clear hs2
   rw [hd]
   clear hd heq2
   go_wp2_with (first
    | (refine qB 80 (.tmp 4) (.tmp 42) (w.heap.size + 2) qD RZ5.o J9 rfl qda ?_))
   refine zh (v := .tuple #[.agg qD, .bool false]) (jJ Tryz.results162 _ _ (w.heap.size + 2) 80 qD (0, 0) _ (by rfl) (zd _ _ _ _ _ _ RZ5.o) jC rfl J9) rfl ⟨?_, ze BL5.o (by omega) _⟩
   unfold QB QZ
   rw [if_neg HN.o, if_neg HY.o, zD (fun h => h.elim HN.o HY.o)]
   show Ending.returned (.tuple #[.agg qD, .bool false]) = .returned (.tuple #[.agg (qb 0), .bool false])
   rw [qbq]
end Go.Proofs.YtccgfabojbjmjaaGreatDoor
