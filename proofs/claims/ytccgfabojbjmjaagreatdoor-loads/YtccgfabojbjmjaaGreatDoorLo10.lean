import Derived.Test.YtccgfabojbjmjaaGreatDoorLo09
import Derived.Deep.RegionHeld3
import Derived.Deep.CutRange
import Derived.Laws.ResultCell
import Derived.Deep.DeepHandedRow
set_option maxRecDepth 100000
set_option maxHeartbeats 8000000
namespace Go.Proofs.YtccgfabojbjmjaaGreatDoor
open Go.RowKit
open Go.RowKit
theorem yY (w : World) (A B : Obj) : ((w.alloc A).alloc B).heap[w.heap.size]? = some A := by rw [zb _ _ (by simp)]; exact za _ _
theorem y4 (w : World) (A B : Obj) : ((w.alloc A).alloc B).heap[w.heap.size + 1]? = some B := Zd _ _ _
theorem qus (w : World) (A B C : Obj) : (((w.alloc A).alloc B).alloc C).heap[w.heap.size]? = some A := JO _ _ _ _
theorem quI (w : World) (A B C : Obj) : (((w.alloc A).alloc B).alloc C).heap[w.heap.size + 1]? = some B := Jm _ _ _ _
theorem qvf (w : World) (A B C : Obj) : (((w.alloc A).alloc B).alloc C).heap[w.heap.size + 2]? = some C := Jb _ _ _ _
theorem qr {w w' : World} {b a B : Nat} (h : C4 w b a) (hB : Below B w w') (hb : b < B) : C4 w' b a := ⟨(hB.cell hb).trans h.1, (hB.cell hb).trans h.2.1, (hB.cell hb).trans h.2.2.1, (hB.cell hb).trans h.2.2.2⟩
theorem qbk {w : World} {b i : Nat} {v : Value} (h : w.cell? ⟨b, i, none⟩ = some v) (o : Obj) : (w.alloc o).cell? ⟨b, i, none⟩ = some v :=
 (World.cell?_alloc_lt _ _ _ (zX w _ h)).trans h
theorem qN {w : World} {b a : Nat} (h : C4 w b a) (o : Obj) : C4 (w.alloc o) b a := ⟨qbk h.1 o, qbk h.2.1 o, qbk h.2.2.1 o, qbk h.2.2.2 o⟩
theorem Zt {B : Nat} {w w' : World} (h : Below B w.drew w') : Below B w w' := ⟨h.os, h.tape, h.output, h.size, h.block⟩
theorem jj {w : World} {b a g : Nat} {cs : Array Value} (h : C4 w b a) (hg : b ≠ g) : C4 (w.setRow g cs) b a := by
 have e := zc w g b cs hg
 exact ⟨(zo e).trans h.1, (zo e).trans h.2.1, (zo e).trans h.2.2.1, (zo e).trans h.2.2.2⟩
def Jo (a : Nat) : Nat :=
 let u2 := mP (sqN 1 a) a
 let u4 := mP (sqN 2 u2) u2
 let u5 := mP (sqN 1 u4) a
 let u10 := mP (sqN 5 u5) u5
 let u20 := mP (sqN 10 u10) u10
 let u40 := mP (sqN 20 u20) u20
 let u50 := mP (sqN 10 u40) u10
 let u100 := mP (sqN 50 u50) u50
 let u200 := mP (sqN 100 u100) u100
 mP (sqN 50 u200) u50
theorem qiJ (a : Nat) : Jo a < P := qK _ _
theorem qo2 (a : Nat) (ha : a < P) (w : World) :
  zC 142 #[fe a] w (fe (Jo a)) := by
 have Ha := qa ha
 clear ha
 go_enter Tryz.func142, Tryz.ntmps142
 go_wp2_with fail
 obtain ⟨W0, hW0⟩ := zy (((w.alloc (.cells (qb a) 80)).alloc (.cells qD 80)))
 rw [← hW0]
 have R0 : Hid (qi W0 w.heap.size (qb a) 80) := by rw [hW0]; exact yY _ _ _
 have RZ : Hid (qi W0 (w.heap.size + 1) qD 80) := by rw [hW0]; exact y4 _ _ _
 have BL0 : Hid (zB w W0) := by rw [hW0]; show Below _ _ _; go_grown
 have Z0 : Hid (w.heap.size + 1 < W0.heap.size) := qm RZ.o
 clear hW0
 go_upto_region 1 with fail
 go_cut [3] from 12 to 15 (fun s wx => ∃ g, s = zp g 0 ∧ Hid (W0.heap.size ≤ g) ∧ Hid (qi wx g ((qb (mP (sqN 1 a) a))) 80) ∧ Hid (zB W0 wx))
 case first =>
  obtain ⟨c_p00, c_p01, c_p02, c_p03⟩ := qn R0.o
  go_region_held3 (fun w' => C4 w' (w.heap.size) (a))
   (first | exact jj (qN (qr (qn R0.o) K0_1.o (qm R0.o)) _) (by have h0 := qm R0.o; have h1 := K0_0.o.size; have h2 := K0_1.o.size; have h9 := Z0.o; omega) | exact jj (qr (qn R0.o) K0_1.o (qm R0.o)) (by have h0 := qm R0.o; have h1 := K0_0.o.size; have h2 := K0_1.o.size; have h9 := Z0.o; omega) | exact (qr (qn R0.o) K0_1.o (qm R0.o)) | exact qN (qr (qn R0.o) K0_1.o (qm R0.o)) _ | exact (qr (qn R0.o) K0_0.o (qm R0.o)) | exact qN (qr (qn R0.o) K0_0.o (qm R0.o)) _ | exact qn R0.o | exact qN (w := W0.drew) (qn R0.o) _ | go_keep)
   (first
    | (go_at_call 141; refine (yo a 1 Ha.o (by decide) _).mono ?_; rintro e V0_0 ⟨rfl, HB⟩; have K0_0 : Hid (zB W0 V0_0) := (by first | exact qa (Zt HB) | exact qa (Below.trans (Below.alloc (Below.drew (zJ _ _)) (zm _) _) (HB.mono (by simp)))); (first | (have ZZ := qa (qM (za _ (.cells qD 80)) HB)) | (have ZZ := qa (qM (w := (W0.alloc (.cells qD 80)).drew) (za W0 (.cells qD 80)) HB)) | (have ZZ := qa (qM ZZ.o HB)) | skip); clear HB)
    | (go_at_call 93; refine (jF (sqN 1 a) a (Je 1 _ Ha.o) Ha.o _).mono ?_; rintro e V0_1 ⟨rfl, HB⟩; have K0_1 : Hid (zB W0 V0_1) := (by first | exact qa (K0_0.o.trans (HB.mono K0_0.o.size)) | exact qa ((K0_0.o.alloc K0_0.o.size _).trans (HB.mono (by have := K0_0.o.size; simp; omega)))); (first | (have ZZ := qa (qM (za _ (.cells qD 80)) HB)) | (have ZZ := qa (qM (w := (W0.alloc (.cells qD 80)).drew) (za W0 (.cells qD 80)) HB)) | (have ZZ := qa (qM ZZ.o HB)) | skip); clear HB; (first | (have hst := jP (P := Tryz.prog) (cs := qb (mP (sqN 1 a) a)) ZZ.o rfl (qY _)) | (have hst := jP (P := Tryz.prog) (w := V0_1.alloc (.cells qD 80)) (cs := qb (mP (sqN 1 a) a)) (za _ _) rfl (qY _))); have hs4 : (qb (mP (sqN 1 a) a)).size = 4 := rfl))
  all_goals (
   clear c_p00 c_p01 c_p02 c_p03
   clear hst hs4
   go_wp2_with fail
   go_meet
   case rel => first | exact ⟨_, rfl, qa (by have h1 := K0_0.o.size; have h2 := K0_1.o.size; omega), qa (zd _ _ _ _ _ _ ZZ.o), qa (ze K0_1.o (by have h1 := K0_0.o.size; have h2 := K0_1.o.size; omega) _)⟩ | exact ⟨_, rfl, qa (by have h1 := K0_0.o.size; have h2 := K0_1.o.size; omega), qa (zd _ _ _ _ _ _ (za _ _)), qa (ze (K0_1.o.alloc K0_1.o.size _) (by have h1 := K0_0.o.size; have h2 := K0_1.o.size; omega) _)⟩)
 case rest =>
 obtain ⟨g1, rfl, G1, Q1, X1⟩ := hcut
 obtain ⟨W1, hW1⟩ := zy wc
 subst hW1
 have BL1 : Hid (zB w W1) := BL0.o.trans (X1.o.mono BL0.o.size)
 have Z1 : Hid (w.heap.size + 1 < W1.heap.size) := by show _ < _; have := Z0.o; have := X1.o.size; omega
 replace R0 := qa (qs R0.o X1.o (qm R0.o))
 replace RZ := qa (qs RZ.o X1.o Z0.o)
 have N1 : Hid (w.heap.size + 1 < g1) := by show _ < _; have := G1.o; have := Z0.o; omega
 clear X1 BL0 Z0 G1
 obtain ⟨u2, Eu2⟩ := zx (mP (sqN 1 a) a)
 have Hu2 : Hid (u2 < P) := by rw [Eu2.o]; exact qK _ _
 rw [← Eu2.o] at Q1
 go_upto_region 2 with fail
 go_cut [4] from 16 to 19 (fun s wx => ∃ g, s = zp g 0 ∧ Hid (W1.heap.size ≤ g) ∧ Hid (qi wx g ((qb (mP (sqN 2 u2) u2))) 80) ∧ Hid (zB W1 wx))
 case first =>
  obtain ⟨c_u20, c_u21, c_u22, c_u23⟩ := qn Q1.o
  go_region_held3 (fun w' => C4 w' (g1) (u2))
   (first | exact jj (qN (qr (qn Q1.o) K1_1.o (qm Q1.o)) _) (by have h0 := qm Q1.o; have h1 := K1_0.o.size; have h2 := K1_1.o.size; have h9 := Z1.o; have n1 := N1.o; omega) | exact jj (qr (qn Q1.o) K1_1.o (qm Q1.o)) (by have h0 := qm Q1.o; have h1 := K1_0.o.size; have h2 := K1_1.o.size; have h9 := Z1.o; have n1 := N1.o; omega) | exact (qr (qn Q1.o) K1_1.o (qm Q1.o)) | exact qN (qr (qn Q1.o) K1_1.o (qm Q1.o)) _ | exact (qr (qn Q1.o) K1_0.o (qm Q1.o)) | exact qN (qr (qn Q1.o) K1_0.o (qm Q1.o)) _ | exact qn Q1.o | exact qN (w := W1.drew) (qn Q1.o) _ | go_keep)
   (first
    | (go_at_call 141; refine (yo u2 2 Hu2.o (by decide) _).mono ?_; rintro e V1_0 ⟨rfl, HB⟩; have K1_0 : Hid (zB W1 V1_0) := (by first | exact qa (Zt HB) | exact qa (Below.trans (Below.alloc (Below.drew (zJ _ _)) (zm _) _) (HB.mono (by simp)))); (first | (have ZZ := qa (qM (za _ (.cells qD 80)) HB)) | (have ZZ := qa (qM (w := (W1.alloc (.cells qD 80)).drew) (za W1 (.cells qD 80)) HB)) | (have ZZ := qa (qM ZZ.o HB)) | skip); clear HB)
    | (go_at_call 93; refine (jF (sqN 2 u2) u2 (Je 2 _ Hu2.o) Hu2.o _).mono ?_; rintro e V1_1 ⟨rfl, HB⟩; have K1_1 : Hid (zB W1 V1_1) := (by first | exact qa (K1_0.o.trans (HB.mono K1_0.o.size)) | exact qa ((K1_0.o.alloc K1_0.o.size _).trans (HB.mono (by have := K1_0.o.size; simp; omega)))); (first | (have ZZ := qa (qM (za _ (.cells qD 80)) HB)) | (have ZZ := qa (qM (w := (W1.alloc (.cells qD 80)).drew) (za W1 (.cells qD 80)) HB)) | (have ZZ := qa (qM ZZ.o HB)) | skip); clear HB; (first | (have hst := jP (P := Tryz.prog) (cs := qb (mP (sqN 2 u2) u2)) ZZ.o rfl (qY _)) | (have hst := jP (P := Tryz.prog) (w := V1_1.alloc (.cells qD 80)) (cs := qb (mP (sqN 2 u2) u2)) (za _ _) rfl (qY _))); have hs4 : (qb (mP (sqN 2 u2) u2)).size = 4 := rfl))
  all_goals (
   clear c_u20 c_u21 c_u22 c_u23
   clear hst hs4
   go_wp2_with fail
   go_meet
   case rel => first | exact ⟨_, rfl, qa (by have h1 := K1_0.o.size; have h2 := K1_1.o.size; omega), qa (zd _ _ _ _ _ _ ZZ.o), qa (ze K1_1.o (by have h1 := K1_0.o.size; have h2 := K1_1.o.size; omega) _)⟩ | exact ⟨_, rfl, qa (by have h1 := K1_0.o.size; have h2 := K1_1.o.size; omega), qa (zd _ _ _ _ _ _ (za _ _)), qa (ze (K1_1.o.alloc K1_1.o.size _) (by have h1 := K1_0.o.size; have h2 := K1_1.o.size; omega) _)⟩)
 case rest =>
 obtain ⟨g2, rfl, G2, Q2, X2⟩ := hcut
 obtain ⟨W2, hW2⟩ := zy wc
 subst hW2
 have BL2 : Hid (zB w W2) := BL1.o.trans (X2.o.mono BL1.o.size)
 have Z2 : Hid (w.heap.size + 1 < W2.heap.size) := by show _ < _; have := Z1.o; have := X2.o.size; omega
 replace R0 := qa (qs R0.o X2.o (qm R0.o))
 replace Q1 := qa (qs Q1.o X2.o (qm Q1.o))
 replace RZ := qa (qs RZ.o X2.o Z1.o)
 have N2 : Hid (w.heap.size + 1 < g2) := by show _ < _; have := G2.o; have := Z1.o; omega
 clear X2 BL1 Z1 G2
 obtain ⟨u4, Eu4⟩ := zx (mP (sqN 2 u2) u2)
 have Hu4 : Hid (u4 < P) := by rw [Eu4.o]; exact qK _ _
 rw [← Eu4.o] at Q2
 go_upto_region 3 with fail
 go_cut [5] from 20 to 23 (fun s wx => ∃ g, s = zp g 0 ∧ Hid (W2.heap.size ≤ g) ∧ Hid (qi wx g ((qb (mP (sqN 1 u4) a))) 80) ∧ Hid (zB W2 wx))
 case first =>
  obtain ⟨c_u40, c_u41, c_u42, c_u43⟩ := qn Q2.o
  obtain ⟨c_p00, c_p01, c_p02, c_p03⟩ := qn R0.o
  go_region_held3 (fun w' => C4 w' (g2) (u4) ∧ C4 w' (w.heap.size) (a))
   (first | exact ⟨jj (qN (qr (qn Q2.o) K2_1.o (qm Q2.o)) _) (by have h0 := qm Q2.o; have h1 := K2_0.o.size; have h2 := K2_1.o.size; have h9 := Z2.o; have n1 := N1.o; have n2 := N2.o; omega), jj (qN (qr (qn R0.o) K2_1.o (qm R0.o)) _) (by have h0 := qm R0.o; have h1 := K2_0.o.size; have h2 := K2_1.o.size; have h9 := Z2.o; have n1 := N1.o; have n2 := N2.o; omega)⟩ | exact ⟨jj (qr (qn Q2.o) K2_1.o (qm Q2.o)) (by have h0 := qm Q2.o; have h1 := K2_0.o.size; have h2 := K2_1.o.size; have h9 := Z2.o; have n1 := N1.o; have n2 := N2.o; omega), jj (qr (qn R0.o) K2_1.o (qm R0.o)) (by have h0 := qm R0.o; have h1 := K2_0.o.size; have h2 := K2_1.o.size; have h9 := Z2.o; have n1 := N1.o; have n2 := N2.o; omega)⟩ | exact ⟨(qr (qn Q2.o) K2_1.o (qm Q2.o)), (qr (qn R0.o) K2_1.o (qm R0.o))⟩ | exact ⟨qN (qr (qn Q2.o) K2_1.o (qm Q2.o)) _, qN (qr (qn R0.o) K2_1.o (qm R0.o)) _⟩ | exact ⟨(qr (qn Q2.o) K2_0.o (qm Q2.o)), (qr (qn R0.o) K2_0.o (qm R0.o))⟩ | exact ⟨qN (qr (qn Q2.o) K2_0.o (qm Q2.o)) _, qN (qr (qn R0.o) K2_0.o (qm R0.o)) _⟩ | exact ⟨qn Q2.o, qn R0.o⟩ | exact ⟨qN (w := W2.drew) (qn Q2.o) _, qN (w := W2.drew) (qn R0.o) _⟩ | go_keep)
   (first
    | (go_at_call 141; refine (yo u4 1 Hu4.o (by decide) _).mono ?_; rintro e V2_0 ⟨rfl, HB⟩; have K2_0 : Hid (zB W2 V2_0) := (by first | exact qa (Zt HB) | exact qa (Below.trans (Below.alloc (Below.drew (zJ _ _)) (zm _) _) (HB.mono (by simp)))); (first | (have ZZ := qa (qM (za _ (.cells qD 80)) HB)) | (have ZZ := qa (qM (w := (W2.alloc (.cells qD 80)).drew) (za W2 (.cells qD 80)) HB)) | (have ZZ := qa (qM ZZ.o HB)) | skip); clear HB)
    | (go_at_call 93; refine (jF (sqN 1 u4) a (Je 1 _ Hu4.o) Ha.o _).mono ?_; rintro e V2_1 ⟨rfl, HB⟩; have K2_1 : Hid (zB W2 V2_1) := (by first | exact qa (K2_0.o.trans (HB.mono K2_0.o.size)) | exact qa ((K2_0.o.alloc K2_0.o.size _).trans (HB.mono (by have := K2_0.o.size; simp; omega)))); (first | (have ZZ := qa (qM (za _ (.cells qD 80)) HB)) | (have ZZ := qa (qM (w := (W2.alloc (.cells qD 80)).drew) (za W2 (.cells qD 80)) HB)) | (have ZZ := qa (qM ZZ.o HB)) | skip); clear HB; (first | (have hst := jP (P := Tryz.prog) (cs := qb (mP (sqN 1 u4) a)) ZZ.o rfl (qY _)) | (have hst := jP (P := Tryz.prog) (w := V2_1.alloc (.cells qD 80)) (cs := qb (mP (sqN 1 u4) a)) (za _ _) rfl (qY _))); have hs4 : (qb (mP (sqN 1 u4) a)).size = 4 := rfl))
  all_goals (
   clear c_u40 c_u41 c_u42 c_u43
   clear c_p00 c_p01 c_p02 c_p03
   clear hst hs4
   go_wp2_with fail
   go_meet
   case rel => first | exact ⟨_, rfl, qa (by have h1 := K2_0.o.size; have h2 := K2_1.o.size; omega), qa (zd _ _ _ _ _ _ ZZ.o), qa (ze K2_1.o (by have h1 := K2_0.o.size; have h2 := K2_1.o.size; omega) _)⟩ | exact ⟨_, rfl, qa (by have h1 := K2_0.o.size; have h2 := K2_1.o.size; omega), qa (zd _ _ _ _ _ _ (za _ _)), qa (ze (K2_1.o.alloc K2_1.o.size _) (by have h1 := K2_0.o.size; have h2 := K2_1.o.size; omega) _)⟩)
 case rest =>
 obtain ⟨g3, rfl, G3, Q3, X3⟩ := hcut
 obtain ⟨W3, hW3⟩ := zy wc
 subst hW3
 have BL3 : Hid (zB w W3) := BL2.o.trans (X3.o.mono BL2.o.size)
 have Z3 : Hid (w.heap.size + 1 < W3.heap.size) := by show _ < _; have := Z2.o; have := X3.o.size; omega
 replace R0 := qa (qs R0.o X3.o (qm R0.o))
 replace Q1 := qa (qs Q1.o X3.o (qm Q1.o))
 replace Q2 := qa (qs Q2.o X3.o (qm Q2.o))
 replace RZ := qa (qs RZ.o X3.o Z2.o)
 have N3 : Hid (w.heap.size + 1 < g3) := by show _ < _; have := G3.o; have := Z2.o; omega
 clear X3 BL2 Z2 G3
 obtain ⟨u5, Eu5⟩ := zx (mP (sqN 1 u4) a)
 have Hu5 : Hid (u5 < P) := by rw [Eu5.o]; exact qK _ _
 rw [← Eu5.o] at Q3
 go_upto_region 4 with fail
 go_cut [6] from 24 to 27 (fun s wx => ∃ g, s = zp g 0 ∧ Hid (W3.heap.size ≤ g) ∧ Hid (qi wx g ((qb (mP (sqN 5 u5) u5))) 80) ∧ Hid (zB W3 wx))
 case first =>
  obtain ⟨c_u50, c_u51, c_u52, c_u53⟩ := qn Q3.o
  go_region_held3 (fun w' => C4 w' (g3) (u5))
   (first | exact jj (qN (qr (qn Q3.o) K3_1.o (qm Q3.o)) _) (by have h0 := qm Q3.o; have h1 := K3_0.o.size; have h2 := K3_1.o.size; have h9 := Z3.o; have n1 := N1.o; have n2 := N2.o; have n3 := N3.o; omega) | exact jj (qr (qn Q3.o) K3_1.o (qm Q3.o)) (by have h0 := qm Q3.o; have h1 := K3_0.o.size; have h2 := K3_1.o.size; have h9 := Z3.o; have n1 := N1.o; have n2 := N2.o; have n3 := N3.o; omega) | exact (qr (qn Q3.o) K3_1.o (qm Q3.o)) | exact qN (qr (qn Q3.o) K3_1.o (qm Q3.o)) _ | exact (qr (qn Q3.o) K3_0.o (qm Q3.o)) | exact qN (qr (qn Q3.o) K3_0.o (qm Q3.o)) _ | exact qn Q3.o | exact qN (w := W3.drew) (qn Q3.o) _ | go_keep)
   (first
    | (go_at_call 141; refine (yo u5 5 Hu5.o (by decide) _).mono ?_; rintro e V3_0 ⟨rfl, HB⟩; have K3_0 : Hid (zB W3 V3_0) := (by first | exact qa (Zt HB) | exact qa (Below.trans (Below.alloc (Below.drew (zJ _ _)) (zm _) _) (HB.mono (by simp)))); (first | (have ZZ := qa (qM (za _ (.cells qD 80)) HB)) | (have ZZ := qa (qM (w := (W3.alloc (.cells qD 80)).drew) (za W3 (.cells qD 80)) HB)) | (have ZZ := qa (qM ZZ.o HB)) | skip); clear HB)
    | (go_at_call 93; refine (jF (sqN 5 u5) u5 (Je 5 _ Hu5.o) Hu5.o _).mono ?_; rintro e V3_1 ⟨rfl, HB⟩; have K3_1 : Hid (zB W3 V3_1) := (by first | exact qa (K3_0.o.trans (HB.mono K3_0.o.size)) | exact qa ((K3_0.o.alloc K3_0.o.size _).trans (HB.mono (by have := K3_0.o.size; simp; omega)))); (first | (have ZZ := qa (qM (za _ (.cells qD 80)) HB)) | (have ZZ := qa (qM (w := (W3.alloc (.cells qD 80)).drew) (za W3 (.cells qD 80)) HB)) | (have ZZ := qa (qM ZZ.o HB)) | skip); clear HB; (first | (have hst := jP (P := Tryz.prog) (cs := qb (mP (sqN 5 u5) u5)) ZZ.o rfl (qY _)) | (have hst := jP (P := Tryz.prog) (w := V3_1.alloc (.cells qD 80)) (cs := qb (mP (sqN 5 u5) u5)) (za _ _) rfl (qY _))); have hs4 : (qb (mP (sqN 5 u5) u5)).size = 4 := rfl))
  all_goals (
   clear c_u50 c_u51 c_u52 c_u53
   clear hst hs4
   go_wp2_with fail
   go_meet
   case rel => first | exact ⟨_, rfl, qa (by have h1 := K3_0.o.size; have h2 := K3_1.o.size; omega), qa (zd _ _ _ _ _ _ ZZ.o), qa (ze K3_1.o (by have h1 := K3_0.o.size; have h2 := K3_1.o.size; omega) _)⟩ | exact ⟨_, rfl, qa (by have h1 := K3_0.o.size; have h2 := K3_1.o.size; omega), qa (zd _ _ _ _ _ _ (za _ _)), qa (ze (K3_1.o.alloc K3_1.o.size _) (by have h1 := K3_0.o.size; have h2 := K3_1.o.size; omega) _)⟩)
 case rest =>
 obtain ⟨g4, rfl, G4, Q4, X4⟩ := hcut
 obtain ⟨W4, hW4⟩ := zy wc
 subst hW4
 have BL4 : Hid (zB w W4) := BL3.o.trans (X4.o.mono BL3.o.size)
 have Z4 : Hid (w.heap.size + 1 < W4.heap.size) := by show _ < _; have := Z3.o; have := X4.o.size; omega
 replace R0 := qa (qs R0.o X4.o (qm R0.o))
 replace Q1 := qa (qs Q1.o X4.o (qm Q1.o))
 replace Q2 := qa (qs Q2.o X4.o (qm Q2.o))
 replace Q3 := qa (qs Q3.o X4.o (qm Q3.o))
 replace RZ := qa (qs RZ.o X4.o Z3.o)
 have N4 : Hid (w.heap.size + 1 < g4) := by show _ < _; have := G4.o; have := Z3.o; omega
 clear X4 BL3 Z3 G4
 obtain ⟨u10, Eu10⟩ := zx (mP (sqN 5 u5) u5)
 have Hu10 : Hid (u10 < P) := by rw [Eu10.o]; exact qK _ _
 rw [← Eu10.o] at Q4
 go_upto_region 5 with fail
 go_cut [7] from 28 to 31 (fun s wx => ∃ g, s = zp g 0 ∧ Hid (W4.heap.size ≤ g) ∧ Hid (qi wx g ((qb (mP (sqN 10 u10) u10))) 80) ∧ Hid (zB W4 wx))
 case first =>
  obtain ⟨c_u100, c_u101, c_u102, c_u103⟩ := qn Q4.o
  go_region_held3 (fun w' => C4 w' (g4) (u10))
   (first | exact jj (qN (qr (qn Q4.o) K4_1.o (qm Q4.o)) _) (by have h0 := qm Q4.o; have h1 := K4_0.o.size; have h2 := K4_1.o.size; have h9 := Z4.o; have n1 := N1.o; have n2 := N2.o; have n3 := N3.o; have n4 := N4.o; omega) | exact jj (qr (qn Q4.o) K4_1.o (qm Q4.o)) (by have h0 := qm Q4.o; have h1 := K4_0.o.size; have h2 := K4_1.o.size; have h9 := Z4.o; have n1 := N1.o; have n2 := N2.o; have n3 := N3.o; have n4 := N4.o; omega) | exact (qr (qn Q4.o) K4_1.o (qm Q4.o)) | exact qN (qr (qn Q4.o) K4_1.o (qm Q4.o)) _ | exact (qr (qn Q4.o) K4_0.o (qm Q4.o)) | exact qN (qr (qn Q4.o) K4_0.o (qm Q4.o)) _ | exact qn Q4.o | exact qN (w := W4.drew) (qn Q4.o) _ | go_keep)
   (first
    | (go_at_call 141; refine (yo u10 10 Hu10.o (by decide) _).mono ?_; rintro e V4_0 ⟨rfl, HB⟩; have K4_0 : Hid (zB W4 V4_0) := (by first | exact qa (Zt HB) | exact qa (Below.trans (Below.alloc (Below.drew (zJ _ _)) (zm _) _) (HB.mono (by simp)))); (first | (have ZZ := qa (qM (za _ (.cells qD 80)) HB)) | (have ZZ := qa (qM (w := (W4.alloc (.cells qD 80)).drew) (za W4 (.cells qD 80)) HB)) | (have ZZ := qa (qM ZZ.o HB)) | skip); clear HB)
    | (go_at_call 93; refine (jF (sqN 10 u10) u10 (Je 10 _ Hu10.o) Hu10.o _).mono ?_; rintro e V4_1 ⟨rfl, HB⟩; have K4_1 : Hid (zB W4 V4_1) := (by first | exact qa (K4_0.o.trans (HB.mono K4_0.o.size)) | exact qa ((K4_0.o.alloc K4_0.o.size _).trans (HB.mono (by have := K4_0.o.size; simp; omega)))); (first | (have ZZ := qa (qM (za _ (.cells qD 80)) HB)) | (have ZZ := qa (qM (w := (W4.alloc (.cells qD 80)).drew) (za W4 (.cells qD 80)) HB)) | (have ZZ := qa (qM ZZ.o HB)) | skip); clear HB; (first | (have hst := jP (P := Tryz.prog) (cs := qb (mP (sqN 10 u10) u10)) ZZ.o rfl (qY _)) | (have hst := jP (P := Tryz.prog) (w := V4_1.alloc (.cells qD 80)) (cs := qb (mP (sqN 10 u10) u10)) (za _ _) rfl (qY _))); have hs4 : (qb (mP (sqN 10 u10) u10)).size = 4 := rfl))
  all_goals (
   clear c_u100 c_u101 c_u102 c_u103
   clear hst hs4
   go_wp2_with fail
   go_meet
   case rel => first | exact ⟨_, rfl, qa (by have h1 := K4_0.o.size; have h2 := K4_1.o.size; omega), qa (zd _ _ _ _ _ _ ZZ.o), qa (ze K4_1.o (by have h1 := K4_0.o.size; have h2 := K4_1.o.size; omega) _)⟩ | exact ⟨_, rfl, qa (by have h1 := K4_0.o.size; have h2 := K4_1.o.size; omega), qa (zd _ _ _ _ _ _ (za _ _)), qa (ze (K4_1.o.alloc K4_1.o.size _) (by have h1 := K4_0.o.size; have h2 := K4_1.o.size; omega) _)⟩)
 case rest =>
 obtain ⟨g5, rfl, G5, Q5, X5⟩ := hcut
 obtain ⟨W5, hW5⟩ := zy wc
 subst hW5
 have BL5 : Hid (zB w W5) := BL4.o.trans (X5.o.mono BL4.o.size)
 have Z5 : Hid (w.heap.size + 1 < W5.heap.size) := by show _ < _; have := Z4.o; have := X5.o.size; omega
 replace R0 := qa (qs R0.o X5.o (qm R0.o))
 replace Q1 := qa (qs Q1.o X5.o (qm Q1.o))
 replace Q2 := qa (qs Q2.o X5.o (qm Q2.o))
 replace Q3 := qa (qs Q3.o X5.o (qm Q3.o))
 replace Q4 := qa (qs Q4.o X5.o (qm Q4.o))
 replace RZ := qa (qs RZ.o X5.o Z4.o)
 have N5 : Hid (w.heap.size + 1 < g5) := by show _ < _; have := G5.o; have := Z4.o; omega
 clear X5 BL4 Z4 G5
 obtain ⟨u20, Eu20⟩ := zx (mP (sqN 10 u10) u10)
 have Hu20 : Hid (u20 < P) := by rw [Eu20.o]; exact qK _ _
 rw [← Eu20.o] at Q5
 go_upto_region 6 with fail
 go_cut [8] from 32 to 35 (fun s wx => ∃ g, s = zp g 0 ∧ Hid (W5.heap.size ≤ g) ∧ Hid (qi wx g ((qb (mP (sqN 20 u20) u20))) 80) ∧ Hid (zB W5 wx))
 case first =>
  obtain ⟨c_u200, c_u201, c_u202, c_u203⟩ := qn Q5.o
  go_region_held3 (fun w' => C4 w' (g5) (u20))
   (first | exact jj (qN (qr (qn Q5.o) K5_1.o (qm Q5.o)) _) (by have h0 := qm Q5.o; have h1 := K5_0.o.size; have h2 := K5_1.o.size; have h9 := Z5.o; have n1 := N1.o; have n2 := N2.o; have n3 := N3.o; have n4 := N4.o; have n5 := N5.o; omega) | exact jj (qr (qn Q5.o) K5_1.o (qm Q5.o)) (by have h0 := qm Q5.o; have h1 := K5_0.o.size; have h2 := K5_1.o.size; have h9 := Z5.o; have n1 := N1.o; have n2 := N2.o; have n3 := N3.o; have n4 := N4.o; have n5 := N5.o; omega) | exact (qr (qn Q5.o) K5_1.o (qm Q5.o)) | exact qN (qr (qn Q5.o) K5_1.o (qm Q5.o)) _ | exact (qr (qn Q5.o) K5_0.o (qm Q5.o)) | exact qN (qr (qn Q5.o) K5_0.o (qm Q5.o)) _ | exact qn Q5.o | exact qN (w := W5.drew) (qn Q5.o) _ | go_keep)
   (first
    | (go_at_call 141; refine (yo u20 20 Hu20.o (by decide) _).mono ?_; rintro e V5_0 ⟨rfl, HB⟩; have K5_0 : Hid (zB W5 V5_0) := (by first | exact qa (Zt HB) | exact qa (Below.trans (Below.alloc (Below.drew (zJ _ _)) (zm _) _) (HB.mono (by simp)))); (first | (have ZZ := qa (qM (za _ (.cells qD 80)) HB)) | (have ZZ := qa (qM (w := (W5.alloc (.cells qD 80)).drew) (za W5 (.cells qD 80)) HB)) | (have ZZ := qa (qM ZZ.o HB)) | skip); clear HB)
    | (go_at_call 93; refine (jF (sqN 20 u20) u20 (Je 20 _ Hu20.o) Hu20.o _).mono ?_; rintro e V5_1 ⟨rfl, HB⟩; have K5_1 : Hid (zB W5 V5_1) := (by first | exact qa (K5_0.o.trans (HB.mono K5_0.o.size)) | exact qa ((K5_0.o.alloc K5_0.o.size _).trans (HB.mono (by have := K5_0.o.size; simp; omega)))); (first | (have ZZ := qa (qM (za _ (.cells qD 80)) HB)) | (have ZZ := qa (qM (w := (W5.alloc (.cells qD 80)).drew) (za W5 (.cells qD 80)) HB)) | (have ZZ := qa (qM ZZ.o HB)) | skip); clear HB; (first | (have hst := jP (P := Tryz.prog) (cs := qb (mP (sqN 20 u20) u20)) ZZ.o rfl (qY _)) | (have hst := jP (P := Tryz.prog) (w := V5_1.alloc (.cells qD 80)) (cs := qb (mP (sqN 20 u20) u20)) (za _ _) rfl (qY _))); have hs4 : (qb (mP (sqN 20 u20) u20)).size = 4 := rfl))
  all_goals (
   clear c_u200 c_u201 c_u202 c_u203
   clear hst hs4
   go_wp2_with fail
   go_meet
   case rel => first | exact ⟨_, rfl, qa (by have h1 := K5_0.o.size; have h2 := K5_1.o.size; omega), qa (zd _ _ _ _ _ _ ZZ.o), qa (ze K5_1.o (by have h1 := K5_0.o.size; have h2 := K5_1.o.size; omega) _)⟩ | exact ⟨_, rfl, qa (by have h1 := K5_0.o.size; have h2 := K5_1.o.size; omega), qa (zd _ _ _ _ _ _ (za _ _)), qa (ze (K5_1.o.alloc K5_1.o.size _) (by have h1 := K5_0.o.size; have h2 := K5_1.o.size; omega) _)⟩)
 case rest =>
 obtain ⟨g6, rfl, G6, Q6, X6⟩ := hcut
 obtain ⟨W6, hW6⟩ := zy wc
 subst hW6
 have BL6 : Hid (zB w W6) := BL5.o.trans (X6.o.mono BL5.o.size)
 have Z6 : Hid (w.heap.size + 1 < W6.heap.size) := by show _ < _; have := Z5.o; have := X6.o.size; omega
 replace R0 := qa (qs R0.o X6.o (qm R0.o))
 replace Q1 := qa (qs Q1.o X6.o (qm Q1.o))
 replace Q2 := qa (qs Q2.o X6.o (qm Q2.o))
 replace Q3 := qa (qs Q3.o X6.o (qm Q3.o))
 replace Q4 := qa (qs Q4.o X6.o (qm Q4.o))
 replace Q5 := qa (qs Q5.o X6.o (qm Q5.o))
 replace RZ := qa (qs RZ.o X6.o Z5.o)
 have N6 : Hid (w.heap.size + 1 < g6) := by show _ < _; have := G6.o; have := Z5.o; omega
 clear X6 BL5 Z5 G6
 obtain ⟨u40, Eu40⟩ := zx (mP (sqN 20 u20) u20)
 have Hu40 : Hid (u40 < P) := by rw [Eu40.o]; exact qK _ _
 rw [← Eu40.o] at Q6
 go_upto_region 7 with fail
 go_cut [9] from 36 to 39 (fun s wx => ∃ g, s = zp g 0 ∧ Hid (W6.heap.size ≤ g) ∧ Hid (qi wx g ((qb (mP (sqN 10 u40) u10))) 80) ∧ Hid (zB W6 wx))
 case first =>
  obtain ⟨c_u400, c_u401, c_u402, c_u403⟩ := qn Q6.o
  obtain ⟨c_u100, c_u101, c_u102, c_u103⟩ := qn Q4.o
  go_region_held3 (fun w' => C4 w' (g6) (u40) ∧ C4 w' (g4) (u10))
   (first | exact ⟨jj (qN (qr (qn Q6.o) K6_1.o (qm Q6.o)) _) (by have h0 := qm Q6.o; have h1 := K6_0.o.size; have h2 := K6_1.o.size; have h9 := Z6.o; have n1 := N1.o; have n2 := N2.o; have n3 := N3.o; have n4 := N4.o; have n5 := N5.o; have n6 := N6.o; omega), jj (qN (qr (qn Q4.o) K6_1.o (qm Q4.o)) _) (by have h0 := qm Q4.o; have h1 := K6_0.o.size; have h2 := K6_1.o.size; have h9 := Z6.o; have n1 := N1.o; have n2 := N2.o; have n3 := N3.o; have n4 := N4.o; have n5 := N5.o; have n6 := N6.o; omega)⟩ | exact ⟨jj (qr (qn Q6.o) K6_1.o (qm Q6.o)) (by have h0 := qm Q6.o; have h1 := K6_0.o.size; have h2 := K6_1.o.size; have h9 := Z6.o; have n1 := N1.o; have n2 := N2.o; have n3 := N3.o; have n4 := N4.o; have n5 := N5.o; have n6 := N6.o; omega), jj (qr (qn Q4.o) K6_1.o (qm Q4.o)) (by have h0 := qm Q4.o; have h1 := K6_0.o.size; have h2 := K6_1.o.size; have h9 := Z6.o; have n1 := N1.o; have n2 := N2.o; have n3 := N3.o; have n4 := N4.o; have n5 := N5.o; have n6 := N6.o; omega)⟩ | exact ⟨(qr (qn Q6.o) K6_1.o (qm Q6.o)), (qr (qn Q4.o) K6_1.o (qm Q4.o))⟩ | exact ⟨qN (qr (qn Q6.o) K6_1.o (qm Q6.o)) _, qN (qr (qn Q4.o) K6_1.o (qm Q4.o)) _⟩ | exact ⟨(qr (qn Q6.o) K6_0.o (qm Q6.o)), (qr (qn Q4.o) K6_0.o (qm Q4.o))⟩ | exact ⟨qN (qr (qn Q6.o) K6_0.o (qm Q6.o)) _, qN (qr (qn Q4.o) K6_0.o (qm Q4.o)) _⟩ | exact ⟨qn Q6.o, qn Q4.o⟩ | exact ⟨qN (w := W6.drew) (qn Q6.o) _, qN (w := W6.drew) (qn Q4.o) _⟩ | go_keep)
   (first
    | (go_at_call 141; refine (yo u40 10 Hu40.o (by decide) _).mono ?_; rintro e V6_0 ⟨rfl, HB⟩; have K6_0 : Hid (zB W6 V6_0) := (by first | exact qa (Zt HB) | exact qa (Below.trans (Below.alloc (Below.drew (zJ _ _)) (zm _) _) (HB.mono (by simp)))); (first | (have ZZ := qa (qM (za _ (.cells qD 80)) HB)) | (have ZZ := qa (qM (w := (W6.alloc (.cells qD 80)).drew) (za W6 (.cells qD 80)) HB)) | (have ZZ := qa (qM ZZ.o HB)) | skip); clear HB)
    | (go_at_call 93; refine (jF (sqN 10 u40) u10 (Je 10 _ Hu40.o) Hu10.o _).mono ?_; rintro e V6_1 ⟨rfl, HB⟩; have K6_1 : Hid (zB W6 V6_1) := (by first | exact qa (K6_0.o.trans (HB.mono K6_0.o.size)) | exact qa ((K6_0.o.alloc K6_0.o.size _).trans (HB.mono (by have := K6_0.o.size; simp; omega)))); (first | (have ZZ := qa (qM (za _ (.cells qD 80)) HB)) | (have ZZ := qa (qM (w := (W6.alloc (.cells qD 80)).drew) (za W6 (.cells qD 80)) HB)) | (have ZZ := qa (qM ZZ.o HB)) | skip); clear HB; (first | (have hst := jP (P := Tryz.prog) (cs := qb (mP (sqN 10 u40) u10)) ZZ.o rfl (qY _)) | (have hst := jP (P := Tryz.prog) (w := V6_1.alloc (.cells qD 80)) (cs := qb (mP (sqN 10 u40) u10)) (za _ _) rfl (qY _))); have hs4 : (qb (mP (sqN 10 u40) u10)).size = 4 := rfl))
  all_goals (
   clear c_u400 c_u401 c_u402 c_u403
   clear c_u100 c_u101 c_u102 c_u103
   clear hst hs4
   go_wp2_with fail
   go_meet
   case rel => first | exact ⟨_, rfl, qa (by have h1 := K6_0.o.size; have h2 := K6_1.o.size; omega), qa (zd _ _ _ _ _ _ ZZ.o), qa (ze K6_1.o (by have h1 := K6_0.o.size; have h2 := K6_1.o.size; omega) _)⟩ | exact ⟨_, rfl, qa (by have h1 := K6_0.o.size; have h2 := K6_1.o.size; omega), qa (zd _ _ _ _ _ _ (za _ _)), qa (ze (K6_1.o.alloc K6_1.o.size _) (by have h1 := K6_0.o.size; have h2 := K6_1.o.size; omega) _)⟩)
 case rest =>
 obtain ⟨g7, rfl, G7, Q7, X7⟩ := hcut
 obtain ⟨W7, hW7⟩ := zy wc
 subst hW7
 have BL7 : Hid (zB w W7) := BL6.o.trans (X7.o.mono BL6.o.size)
 have Z7 : Hid (w.heap.size + 1 < W7.heap.size) := by show _ < _; have := Z6.o; have := X7.o.size; omega
 replace R0 := qa (qs R0.o X7.o (qm R0.o))
 replace Q1 := qa (qs Q1.o X7.o (qm Q1.o))
 replace Q2 := qa (qs Q2.o X7.o (qm Q2.o))
 replace Q3 := qa (qs Q3.o X7.o (qm Q3.o))
 replace Q4 := qa (qs Q4.o X7.o (qm Q4.o))
 replace Q5 := qa (qs Q5.o X7.o (qm Q5.o))
 replace Q6 := qa (qs Q6.o X7.o (qm Q6.o))
 replace RZ := qa (qs RZ.o X7.o Z6.o)
 have N7 : Hid (w.heap.size + 1 < g7) := by show _ < _; have := G7.o; have := Z6.o; omega
 clear X7 BL6 Z6 G7
 obtain ⟨u50, Eu50⟩ := zx (mP (sqN 10 u40) u10)
 have Hu50 : Hid (u50 < P) := by rw [Eu50.o]; exact qK _ _
 rw [← Eu50.o] at Q7
 go_upto_region 8 with fail
 go_cut [10] from 40 to 43 (fun s wx => ∃ g, s = zp g 0 ∧ Hid (W7.heap.size ≤ g) ∧ Hid (qi wx g ((qb (mP (sqN 50 u50) u50))) 80) ∧ Hid (zB W7 wx))
 case first =>
  obtain ⟨c_u500, c_u501, c_u502, c_u503⟩ := qn Q7.o
  go_region_held3 (fun w' => C4 w' (g7) (u50))
   (first | exact jj (qN (qr (qn Q7.o) K7_1.o (qm Q7.o)) _) (by have h0 := qm Q7.o; have h1 := K7_0.o.size; have h2 := K7_1.o.size; have h9 := Z7.o; have n1 := N1.o; have n2 := N2.o; have n3 := N3.o; have n4 := N4.o; have n5 := N5.o; have n6 := N6.o; have n7 := N7.o; omega) | exact jj (qr (qn Q7.o) K7_1.o (qm Q7.o)) (by have h0 := qm Q7.o; have h1 := K7_0.o.size; have h2 := K7_1.o.size; have h9 := Z7.o; have n1 := N1.o; have n2 := N2.o; have n3 := N3.o; have n4 := N4.o; have n5 := N5.o; have n6 := N6.o; have n7 := N7.o; omega) | exact (qr (qn Q7.o) K7_1.o (qm Q7.o)) | exact qN (qr (qn Q7.o) K7_1.o (qm Q7.o)) _ | exact (qr (qn Q7.o) K7_0.o (qm Q7.o)) | exact qN (qr (qn Q7.o) K7_0.o (qm Q7.o)) _ | exact qn Q7.o | exact qN (w := W7.drew) (qn Q7.o) _ | go_keep)
   (first
    | (go_at_call 141; refine (yo u50 50 Hu50.o (by decide) _).mono ?_; rintro e V7_0 ⟨rfl, HB⟩; have K7_0 : Hid (zB W7 V7_0) := (by first | exact qa (Zt HB) | exact qa (Below.trans (Below.alloc (Below.drew (zJ _ _)) (zm _) _) (HB.mono (by simp)))); (first | (have ZZ := qa (qM (za _ (.cells qD 80)) HB)) | (have ZZ := qa (qM (w := (W7.alloc (.cells qD 80)).drew) (za W7 (.cells qD 80)) HB)) | (have ZZ := qa (qM ZZ.o HB)) | skip); clear HB)
    | (go_at_call 93; refine (jF (sqN 50 u50) u50 (Je 50 _ Hu50.o) Hu50.o _).mono ?_; rintro e V7_1 ⟨rfl, HB⟩; have K7_1 : Hid (zB W7 V7_1) := (by first | exact qa (K7_0.o.trans (HB.mono K7_0.o.size)) | exact qa ((K7_0.o.alloc K7_0.o.size _).trans (HB.mono (by have := K7_0.o.size; simp; omega)))); (first | (have ZZ := qa (qM (za _ (.cells qD 80)) HB)) | (have ZZ := qa (qM (w := (W7.alloc (.cells qD 80)).drew) (za W7 (.cells qD 80)) HB)) | (have ZZ := qa (qM ZZ.o HB)) | skip); clear HB; (first | (have hst := jP (P := Tryz.prog) (cs := qb (mP (sqN 50 u50) u50)) ZZ.o rfl (qY _)) | (have hst := jP (P := Tryz.prog) (w := V7_1.alloc (.cells qD 80)) (cs := qb (mP (sqN 50 u50) u50)) (za _ _) rfl (qY _))); have hs4 : (qb (mP (sqN 50 u50) u50)).size = 4 := rfl))
  all_goals (
   clear c_u500 c_u501 c_u502 c_u503
   clear hst hs4
   go_wp2_with fail
   go_meet
   case rel => first | exact ⟨_, rfl, qa (by have h1 := K7_0.o.size; have h2 := K7_1.o.size; omega), qa (zd _ _ _ _ _ _ ZZ.o), qa (ze K7_1.o (by have h1 := K7_0.o.size; have h2 := K7_1.o.size; omega) _)⟩ | exact ⟨_, rfl, qa (by have h1 := K7_0.o.size; have h2 := K7_1.o.size; omega), qa (zd _ _ _ _ _ _ (za _ _)), qa (ze (K7_1.o.alloc K7_1.o.size _) (by have h1 := K7_0.o.size; have h2 := K7_1.o.size; omega) _)⟩)
 case rest =>
 obtain ⟨g8, rfl, G8, Q8, X8⟩ := hcut
 obtain ⟨W8, hW8⟩ := zy wc
 subst hW8
 have BL8 : Hid (zB w W8) := BL7.o.trans (X8.o.mono BL7.o.size)
 have Z8 : Hid (w.heap.size + 1 < W8.heap.size) := by show _ < _; have := Z7.o; have := X8.o.size; omega
 replace R0 := qa (qs R0.o X8.o (qm R0.o))
 replace Q1 := qa (qs Q1.o X8.o (qm Q1.o))
 replace Q2 := qa (qs Q2.o X8.o (qm Q2.o))
 replace Q3 := qa (qs Q3.o X8.o (qm Q3.o))
 replace Q4 := qa (qs Q4.o X8.o (qm Q4.o))
 replace Q5 := qa (qs Q5.o X8.o (qm Q5.o))
 replace Q6 := qa (qs Q6.o X8.o (qm Q6.o))
 replace Q7 := qa (qs Q7.o X8.o (qm Q7.o))
 replace RZ := qa (qs RZ.o X8.o Z7.o)
 have N8 : Hid (w.heap.size + 1 < g8) := by show _ < _; have := G8.o; have := Z7.o; omega
 clear X8 BL7 Z7 G8
 obtain ⟨u100, Eu100⟩ := zx (mP (sqN 50 u50) u50)
 have Hu100 : Hid (u100 < P) := by rw [Eu100.o]; exact qK _ _
 rw [← Eu100.o] at Q8
 go_upto_region 9 with fail
 go_cut [11] from 44 to 47 (fun s wx => ∃ g, s = zp g 0 ∧ Hid (W8.heap.size ≤ g) ∧ Hid (qi wx g ((qb (mP (sqN 100 u100) u100))) 80) ∧ Hid (zB W8 wx))
 case first =>
  obtain ⟨c_u1000, c_u1001, c_u1002, c_u1003⟩ := qn Q8.o
  go_region_held3 (fun w' => C4 w' (g8) (u100))
   (first | exact jj (qN (qr (qn Q8.o) K8_1.o (qm Q8.o)) _) (by have h0 := qm Q8.o; have h1 := K8_0.o.size; have h2 := K8_1.o.size; have h9 := Z8.o; have n1 := N1.o; have n2 := N2.o; have n3 := N3.o; have n4 := N4.o; have n5 := N5.o; have n6 := N6.o; have n7 := N7.o; have n8 := N8.o; omega) | exact jj (qr (qn Q8.o) K8_1.o (qm Q8.o)) (by have h0 := qm Q8.o; have h1 := K8_0.o.size; have h2 := K8_1.o.size; have h9 := Z8.o; have n1 := N1.o; have n2 := N2.o; have n3 := N3.o; have n4 := N4.o; have n5 := N5.o; have n6 := N6.o; have n7 := N7.o; have n8 := N8.o; omega) | exact (qr (qn Q8.o) K8_1.o (qm Q8.o)) | exact qN (qr (qn Q8.o) K8_1.o (qm Q8.o)) _ | exact (qr (qn Q8.o) K8_0.o (qm Q8.o)) | exact qN (qr (qn Q8.o) K8_0.o (qm Q8.o)) _ | exact qn Q8.o | exact qN (w := W8.drew) (qn Q8.o) _ | go_keep)
   (first
    | (go_at_call 141; refine (yo u100 100 Hu100.o (by decide) _).mono ?_; rintro e V8_0 ⟨rfl, HB⟩; have K8_0 : Hid (zB W8 V8_0) := (by first | exact qa (Zt HB) | exact qa (Below.trans (Below.alloc (Below.drew (zJ _ _)) (zm _) _) (HB.mono (by simp)))); (first | (have ZZ := qa (qM (za _ (.cells qD 80)) HB)) | (have ZZ := qa (qM (w := (W8.alloc (.cells qD 80)).drew) (za W8 (.cells qD 80)) HB)) | (have ZZ := qa (qM ZZ.o HB)) | skip); clear HB)
    | (go_at_call 93; refine (jF (sqN 100 u100) u100 (Je 100 _ Hu100.o) Hu100.o _).mono ?_; rintro e V8_1 ⟨rfl, HB⟩; have K8_1 : Hid (zB W8 V8_1) := (by first | exact qa (K8_0.o.trans (HB.mono K8_0.o.size)) | exact qa ((K8_0.o.alloc K8_0.o.size _).trans (HB.mono (by have := K8_0.o.size; simp; omega)))); (first | (have ZZ := qa (qM (za _ (.cells qD 80)) HB)) | (have ZZ := qa (qM (w := (W8.alloc (.cells qD 80)).drew) (za W8 (.cells qD 80)) HB)) | (have ZZ := qa (qM ZZ.o HB)) | skip); clear HB; (first | (have hst := jP (P := Tryz.prog) (cs := qb (mP (sqN 100 u100) u100)) ZZ.o rfl (qY _)) | (have hst := jP (P := Tryz.prog) (w := V8_1.alloc (.cells qD 80)) (cs := qb (mP (sqN 100 u100) u100)) (za _ _) rfl (qY _))); have hs4 : (qb (mP (sqN 100 u100) u100)).size = 4 := rfl))
  all_goals (
   clear c_u1000 c_u1001 c_u1002 c_u1003
   clear hst hs4
   go_wp2_with fail
   go_meet
   case rel => first | exact ⟨_, rfl, qa (by have h1 := K8_0.o.size; have h2 := K8_1.o.size; omega), qa (zd _ _ _ _ _ _ ZZ.o), qa (ze K8_1.o (by have h1 := K8_0.o.size; have h2 := K8_1.o.size; omega) _)⟩ | exact ⟨_, rfl, qa (by have h1 := K8_0.o.size; have h2 := K8_1.o.size; omega), qa (zd _ _ _ _ _ _ (za _ _)), qa (ze (K8_1.o.alloc K8_1.o.size _) (by have h1 := K8_0.o.size; have h2 := K8_1.o.size; omega) _)⟩)
 case rest =>
 obtain ⟨g9, rfl, G9, Q9, X9⟩ := hcut
 obtain ⟨W9, hW9⟩ := zy wc
 subst hW9
 have BL9 : Hid (zB w W9) := BL8.o.trans (X9.o.mono BL8.o.size)
 have Z9 : Hid (w.heap.size + 1 < W9.heap.size) := by show _ < _; have := Z8.o; have := X9.o.size; omega
 replace R0 := qa (qs R0.o X9.o (qm R0.o))
 replace Q1 := qa (qs Q1.o X9.o (qm Q1.o))
 replace Q2 := qa (qs Q2.o X9.o (qm Q2.o))
 replace Q3 := qa (qs Q3.o X9.o (qm Q3.o))
 replace Q4 := qa (qs Q4.o X9.o (qm Q4.o))
 replace Q5 := qa (qs Q5.o X9.o (qm Q5.o))
 replace Q6 := qa (qs Q6.o X9.o (qm Q6.o))
 replace Q7 := qa (qs Q7.o X9.o (qm Q7.o))
 replace Q8 := qa (qs Q8.o X9.o (qm Q8.o))
 replace RZ := qa (qs RZ.o X9.o Z8.o)
 have N9 : Hid (w.heap.size + 1 < g9) := by show _ < _; have := G9.o; have := Z8.o; omega
 clear X9 BL8 Z8 G9
 obtain ⟨u200, Eu200⟩ := zx (mP (sqN 100 u100) u100)
 have Hu200 : Hid (u200 < P) := by rw [Eu200.o]; exact qK _ _
 rw [← Eu200.o] at Q9
 go_upto_region 10 with fail
 obtain ⟨c_u2000, c_u2001, c_u2002, c_u2003⟩ := qn Q9.o
 obtain ⟨c_u500, c_u501, c_u502, c_u503⟩ := qn Q7.o
 go_region_held3 (fun w' => C4 w' (g9) (u200) ∧ C4 w' (g7) (u50))
  (first | exact ⟨jj (qr (qn Q9.o) K9_1.o (qm Q9.o)) (by have h0 := qm Q9.o; have h1 := K9_0.o.size; have h2 := K9_1.o.size; have h9 := Z9.o; have n1 := N1.o; have n2 := N2.o; have n3 := N3.o; have n4 := N4.o; have n5 := N5.o; have n6 := N6.o; have n7 := N7.o; have n8 := N8.o; have n9 := N9.o; omega), jj (qr (qn Q7.o) K9_1.o (qm Q7.o)) (by have h0 := qm Q7.o; have h1 := K9_0.o.size; have h2 := K9_1.o.size; have h9 := Z9.o; have n1 := N1.o; have n2 := N2.o; have n3 := N3.o; have n4 := N4.o; have n5 := N5.o; have n6 := N6.o; have n7 := N7.o; have n8 := N8.o; have n9 := N9.o; omega)⟩ | exact ⟨(qr (qn Q9.o) K9_1.o (qm Q9.o)), (qr (qn Q7.o) K9_1.o (qm Q7.o))⟩ | exact ⟨(qr (qn Q9.o) K9_0.o (qm Q9.o)), (qr (qn Q7.o) K9_0.o (qm Q7.o))⟩ | exact ⟨qn Q9.o, qn Q7.o⟩ | go_keep)
  (first
   | (go_at_call 141; refine (yo u200 50 Hu200.o (by decide) _).mono ?_; rintro e V9_0 ⟨rfl, HB⟩; have K9_0 : Hid (zB W9 V9_0) := (by first | exact qa (Zt HB) | exact qa (Below.trans (Below.alloc (Below.drew (zJ _ _)) (zm _) _) (HB.mono (by simp)))); clear HB)
   | (go_at_call 93; refine (jF (sqN 50 u200) u50 (Je 50 _ Hu200.o) Hu50.o _).mono ?_; rintro e V9_1 ⟨rfl, HB⟩; have K9_1 : Hid (zB W9 V9_1) := (by first | exact qa (K9_0.o.trans (HB.mono K9_0.o.size)) | exact qa ((K9_0.o.alloc K9_0.o.size _).trans (HB.mono (by have := K9_0.o.size; simp; omega)))); clear HB; have hst := jP (P := Tryz.prog) (cs := qb (mP (sqN 50 u200) u50)) ((K9_1.o.block _ Z9.o).trans RZ.o) rfl (qY _); have hs4 : (qb (mP (sqN 50 u200) u50)).size = 4 := rfl))
 clear c_u2000 c_u2001 c_u2002 c_u2003
 clear c_u500 c_u501 c_u502 c_u503
 clear hst hs4
 go_wp2_with fail
 refine zh (v := fe (mP (sqN 50 u200) u50)) (results_cell_row Tryz.results142 _ _ (w.heap.size + 1) 80 (qb (mP (sqN 50 u200) u50)) (0, 0) _ (by rfl) (zd _ _ _ _ _ _ ((K9_1.o.block _ Z9.o).trans RZ.o)) jC rfl (jc _)) rfl ⟨by rw [Eu200.o, Eu100.o, Eu50.o, Eu40.o, Eu20.o, Eu10.o, Eu5.o, Eu4.o, Eu2.o]; rfl, ze (BL9.o.trans (K9_1.o.mono BL9.o.size)) (by omega) _⟩
open Go.RowKit
def Yv (a : Nat) : Nat := mP (sqN 2 (Jo a)) a
theorem qps (a : Nat) : Yv a < P := qK _ _
def Qa (a : Nat) : Nat := mP (sqN 5 (Jo a)) (mP (mP a (sqN 1 a)) (sqN 3 a))
theorem ql2 (a : Nat) : Qa a < P := qK _ _
theorem qht (a : Nat) (ha : a < P) (w : World) :
  zC 171 #[fe a] w (fe (Yv a)) := by
 have Ha := qa ha
 clear ha
 go_enter Tryz.func171, Tryz.ntmps171
 go_wp2_with fail
 obtain ⟨W0, hW0⟩ := zy (((w.alloc (.cells (qb a) 80)).alloc (.cells qD 80)))
 rw [← hW0]
 have R0 : Hid (qi W0 w.heap.size (qb a) 80) := by rw [hW0]; exact yY _ _ _
 have RZ : Hid (qi W0 (w.heap.size + 1) qD 80) := by rw [hW0]; exact y4 _ _ _
 have BL0 : Hid (zB w W0) := by rw [hW0]; show Below _ _ _; go_grown
 have Z0 : Hid (w.heap.size + 1 < W0.heap.size) := qm RZ.o
 clear hW0
 go_upto_region 1 with fail
 obtain ⟨c_p00, c_p01, c_p02, c_p03⟩ := qn R0.o
 go_region_held3 (fun w' => C4 w' (w.heap.size) (a))
  (first | exact jj (qr (qn R0.o) K0_2.o (qm R0.o)) (by have h0 := qm R0.o; have h1 := K0_0.o.size; have h2 := K0_1.o.size; have h3 := K0_2.o.size; have h9 := Z0.o; omega) | exact (qr (qn R0.o) K0_2.o (qm R0.o)) | exact (qr (qn R0.o) K0_1.o (qm R0.o)) | exact (qr (qn R0.o) K0_0.o (qm R0.o)) | exact qn R0.o | go_keep)
  (first
   | (go_at_call 142; (fail_if_success (have zz := K0_0)); refine (qo2 a Ha.o _).mono ?_; rintro e V0_0 ⟨rfl, HB⟩; have K0_0 : Hid (zB W0 V0_0) := (by first | exact qa (Zt HB) | exact qa (Below.trans (Below.alloc (Below.drew (zJ _ _)) (zm _) _) (HB.mono (by simp)))); clear HB)
   | (go_at_call 141; (fail_if_success (have zz := K0_1)); (have zz := K0_0; clear zz); refine (yo (Jo a) 2 (qiJ _) (by decide) _).mono ?_; rintro e V0_1 ⟨rfl, HB⟩; have K0_1 : Hid (zB W0 V0_1) := (by first | exact qa (K0_0.o.trans (HB.mono K0_0.o.size)) | exact qa ((K0_0.o.alloc K0_0.o.size _).trans (HB.mono (by have := K0_0.o.size; simp; omega)))); clear HB)
   | (go_at_call 93; (fail_if_success (have zz := K0_2)); (have zz := K0_1; clear zz); refine (jF (sqN 2 (Jo a)) a (Je 2 _ (qiJ _)) Ha.o _).mono ?_; rintro e V0_2 ⟨rfl, HB⟩; have K0_2 : Hid (zB W0 V0_2) := (by first | exact qa (K0_1.o.trans (HB.mono K0_1.o.size)) | exact qa ((K0_1.o.alloc K0_1.o.size _).trans (HB.mono (by have := K0_1.o.size; simp; omega)))); clear HB; have hst := jP (P := Tryz.prog) (cs := qb (mP (sqN 2 (Jo a)) a)) ((K0_2.o.block _ Z0.o).trans RZ.o) rfl (qY _); have hs4 : (qb (mP (sqN 2 (Jo a)) a)).size = 4 := rfl))
 clear c_p00 c_p01 c_p02 c_p03
 clear hst hs4
 go_wp2_with fail
 refine zh (v := fe (mP (sqN 2 (Jo a)) a)) (results_cell_row Tryz.results171 _ _ (w.heap.size + 1) 80 (qb (mP (sqN 2 (Jo a)) a)) (0, 0) _ (by rfl) (zd _ _ _ _ _ _ ((K0_2.o.block _ Z0.o).trans RZ.o)) jC rfl (jc _)) rfl ⟨rfl, ze (BL0.o.trans (K0_2.o.mono BL0.o.size)) (by omega) _⟩
theorem qmu (a : Nat) (ha : a < P) (w : World) :
  zC 92 #[fe a] w (fe (Qa a)) := by
 have Ha := qa ha
 clear ha
 go_enter Tryz.func92, Tryz.ntmps92
 go_wp2_with fail
 obtain ⟨W0, hW0⟩ := zy (((w.alloc (.cells (qb a) 80)).alloc (.cells qD 80)))
 rw [← hW0]
 have R0 : Hid (qi W0 w.heap.size (qb a) 80) := by rw [hW0]; exact yY _ _ _
 have RZ : Hid (qi W0 (w.heap.size + 1) qD 80) := by rw [hW0]; exact y4 _ _ _
 have BL0 : Hid (zB w W0) := by rw [hW0]; show Below _ _ _; go_grown
 have Z0 : Hid (w.heap.size + 1 < W0.heap.size) := qm RZ.o
 clear hW0
 go_upto_region 1 with fail
 go_cut [3] from 4 to 10 (fun s wx => ∃ g, s = zp g 0 ∧ Hid (W0.heap.size ≤ g) ∧ Hid (wx.heap[g]? = some (.cells (qb (mP (mP a (sqN 1 a)) (sqN 3 a))) 80)) ∧ Hid (zB W0 wx))
 case first =>
  obtain ⟨c_p00, c_p01, c_p02, c_p03⟩ := qn R0.o
  go_region_held3 (fun w' => C4 w' (w.heap.size) (a))
   (first | exact jj (qN (qr (qn R0.o) K0_3.o (qm R0.o)) _) (by have h0 := qm R0.o; have h1 := K0_0.o.size; have h2 := K0_1.o.size; have h3 := K0_2.o.size; have h4 := K0_3.o.size; have h9 := Z0.o; omega) | exact jj (qr (qn R0.o) K0_3.o (qm R0.o)) (by have h0 := qm R0.o; have h1 := K0_0.o.size; have h2 := K0_1.o.size; have h3 := K0_2.o.size; have h4 := K0_3.o.size; have h9 := Z0.o; omega) | exact (qr (qn R0.o) K0_3.o (qm R0.o)) | exact qN (qr (qn R0.o) K0_3.o (qm R0.o)) _ | exact (qr (qn R0.o) K0_2.o (qm R0.o)) | exact qN (qr (qn R0.o) K0_2.o (qm R0.o)) _ | exact (qr (qn R0.o) K0_1.o (qm R0.o)) | exact qN (qr (qn R0.o) K0_1.o (qm R0.o)) _ | exact (qr (qn R0.o) K0_0.o (qm R0.o)) | exact qN (qr (qn R0.o) K0_0.o (qm R0.o)) _ | exact qn R0.o | exact qN (w := W0.drew) (qn R0.o) _ | go_keep)
   (first
    | (go_at_call 141; (fail_if_success (have zz := K0_0)); refine (yo a 1 Ha.o (by decide) _).mono ?_; rintro e V0_0 ⟨rfl, HB⟩; have K0_0 : Hid (zB W0 V0_0) := (by first | exact qa (Zt HB) | exact qa (Below.trans (Below.alloc (Below.drew (zJ _ _)) (zm _) _) (HB.mono (by simp)))); (first | (have ZZ := qa (qM (za _ (.cells qD 80)) HB)) | (have ZZ := qa (qM (w := (W0.alloc (.cells qD 80)).drew) (za W0 (.cells qD 80)) HB)) | (have ZZ := qa (qM ZZ.o HB)) | skip); clear HB)
    | (go_at_call 93; (fail_if_success (have zz := K0_1)); (have zz := K0_0; clear zz); refine (jF a (sqN 1 a) Ha.o (Je 1 _ Ha.o) _).mono ?_; rintro e V0_1 ⟨rfl, HB⟩; have K0_1 : Hid (zB W0 V0_1) := (by first | exact qa (K0_0.o.trans (HB.mono K0_0.o.size)) | exact qa ((K0_0.o.alloc K0_0.o.size _).trans (HB.mono (by have := K0_0.o.size; simp; omega)))); (first | (have ZZ := qa (qM (za _ (.cells qD 80)) HB)) | (have ZZ := qa (qM (w := (W0.alloc (.cells qD 80)).drew) (za W0 (.cells qD 80)) HB)) | (have ZZ := qa (qM ZZ.o HB)) | skip); clear HB)
    | (go_at_call 141; (fail_if_success (have zz := K0_2)); (have zz := K0_1; clear zz); refine (yo a 3 Ha.o (by decide) _).mono ?_; rintro e V0_2 ⟨rfl, HB⟩; have K0_2 : Hid (zB W0 V0_2) := (by first | exact qa (K0_1.o.trans (HB.mono K0_1.o.size)) | exact qa ((K0_1.o.alloc K0_1.o.size _).trans (HB.mono (by have := K0_1.o.size; simp; omega)))); (first | (have ZZ := qa (qM (za _ (.cells qD 80)) HB)) | (have ZZ := qa (qM (w := (W0.alloc (.cells qD 80)).drew) (za W0 (.cells qD 80)) HB)) | (have ZZ := qa (qM ZZ.o HB)) | skip); clear HB)
    | (go_at_call 93; (fail_if_success (have zz := K0_3)); (have zz := K0_2; clear zz); refine (jF (mP a (sqN 1 a)) (sqN 3 a) (qK _ _) (Je 3 _ Ha.o) _).mono ?_; rintro e V0_3 ⟨rfl, HB⟩; have K0_3 : Hid (zB W0 V0_3) := (by first | exact qa (K0_2.o.trans (HB.mono K0_2.o.size)) | exact qa ((K0_2.o.alloc K0_2.o.size _).trans (HB.mono (by have := K0_2.o.size; simp; omega)))); (first | (have ZZ := qa (qM (za _ (.cells qD 80)) HB)) | (have ZZ := qa (qM (w := (W0.alloc (.cells qD 80)).drew) (za W0 (.cells qD 80)) HB)) | (have ZZ := qa (qM ZZ.o HB)) | skip); clear HB; (first | (have hst := jP (P := Tryz.prog) (cs := qb (mP (mP a (sqN 1 a)) (sqN 3 a))) ZZ.o rfl (qY _)) | (have hst := jP (P := Tryz.prog) (w := V0_3.alloc (.cells qD 80)) (cs := qb (mP (mP a (sqN 1 a)) (sqN 3 a))) (za _ _) rfl (qY _))); have hs4 : (qb (mP (mP a (sqN 1 a)) (sqN 3 a))).size = 4 := rfl))
  all_goals (
   clear c_p00 c_p01 c_p02 c_p03
   clear hst hs4
   go_wp2_with fail
   go_meet
   case rel => first | exact ⟨_, rfl, qa (by have h1 := K0_0.o.size; have h2 := K0_1.o.size; have h3 := K0_2.o.size; have h4 := K0_3.o.size; omega), qa (zd _ _ _ _ _ _ ZZ.o), qa (ze K0_3.o (by have h1 := K0_0.o.size; have h2 := K0_1.o.size; have h3 := K0_2.o.size; have h4 := K0_3.o.size; omega) _)⟩ | exact ⟨_, rfl, qa (by have h1 := K0_0.o.size; have h2 := K0_1.o.size; have h3 := K0_2.o.size; have h4 := K0_3.o.size; omega), qa (zd _ _ _ _ _ _ (za _ _)), qa (ze (K0_3.o.alloc K0_3.o.size _) (by have h1 := K0_0.o.size; have h2 := K0_1.o.size; have h3 := K0_2.o.size; have h4 := K0_3.o.size; omega) _)⟩)
 case rest =>
 obtain ⟨g1, rfl, G1, Q1, X1⟩ := hcut
 obtain ⟨W1, hW1⟩ := zy wc
 subst hW1
 have BL1 : Hid (zB w W1) := BL0.o.trans (X1.o.mono BL0.o.size)
 have Z1 : Hid (w.heap.size + 1 < W1.heap.size) := by show _ < _; have := Z0.o; have := X1.o.size; omega
 replace R0 := qa (qs R0.o X1.o (qm R0.o))
 replace RZ := qa (qs RZ.o X1.o Z0.o)
 have N1 : Hid (w.heap.size + 1 < g1) := by show _ < _; have := G1.o; have := Z0.o; omega
 clear X1 BL0 Z0 G1
 go_upto_region 2 with fail
 obtain ⟨c_p00, c_p01, c_p02, c_p03⟩ := qn R0.o
 obtain ⟨c_el0, c_el1, c_el2, c_el3⟩ := qn Q1.o
 go_region_held3 (fun w' => C4 w' (w.heap.size) (a) ∧ C4 w' (g1) (mP (mP a (sqN 1 a)) (sqN 3 a)))
  (first | exact ⟨jj (qr (qn R0.o) K1_2.o (qm R0.o)) (by have h0 := qm R0.o; have h1 := K1_0.o.size; have h2 := K1_1.o.size; have h3 := K1_2.o.size; have h9 := Z1.o; have n1 := N1.o; omega), jj (qr (qn Q1.o) K1_2.o (qm Q1.o)) (by have h0 := qm Q1.o; have h1 := K1_0.o.size; have h2 := K1_1.o.size; have h3 := K1_2.o.size; have h9 := Z1.o; have n1 := N1.o; omega)⟩ | exact ⟨(qr (qn R0.o) K1_2.o (qm R0.o)), (qr (qn Q1.o) K1_2.o (qm Q1.o))⟩ | exact ⟨(qr (qn R0.o) K1_1.o (qm R0.o)), (qr (qn Q1.o) K1_1.o (qm Q1.o))⟩ | exact ⟨(qr (qn R0.o) K1_0.o (qm R0.o)), (qr (qn Q1.o) K1_0.o (qm Q1.o))⟩ | exact ⟨qn R0.o, qn Q1.o⟩ | go_keep)
  (first
   | (go_at_call 142; (fail_if_success (have zz := K1_0)); refine (qo2 a Ha.o _).mono ?_; rintro e V1_0 ⟨rfl, HB⟩; have K1_0 : Hid (zB W1 V1_0) := (by first | exact qa (Zt HB) | exact qa (Below.trans (Below.alloc (Below.drew (zJ _ _)) (zm _) _) (HB.mono (by simp)))); clear HB)
   | (go_at_call 141; (fail_if_success (have zz := K1_1)); (have zz := K1_0; clear zz); refine (yo (Jo a) 5 (qiJ _) (by decide) _).mono ?_; rintro e V1_1 ⟨rfl, HB⟩; have K1_1 : Hid (zB W1 V1_1) := (by first | exact qa (K1_0.o.trans (HB.mono K1_0.o.size)) | exact qa ((K1_0.o.alloc K1_0.o.size _).trans (HB.mono (by have := K1_0.o.size; simp; omega)))); clear HB)
   | (go_at_call 93; (fail_if_success (have zz := K1_2)); (have zz := K1_1; clear zz); refine (jF (sqN 5 (Jo a)) (mP (mP a (sqN 1 a)) (sqN 3 a)) (Je 5 _ (qiJ _)) (qK _ _) _).mono ?_; rintro e V1_2 ⟨rfl, HB⟩; have K1_2 : Hid (zB W1 V1_2) := (by first | exact qa (K1_1.o.trans (HB.mono K1_1.o.size)) | exact qa ((K1_1.o.alloc K1_1.o.size _).trans (HB.mono (by have := K1_1.o.size; simp; omega)))); clear HB; have hst := jP (P := Tryz.prog) (cs := qb (mP (sqN 5 (Jo a)) (mP (mP a (sqN 1 a)) (sqN 3 a)))) ((K1_2.o.block _ Z1.o).trans RZ.o) rfl (qY _); have hs4 : (qb (mP (sqN 5 (Jo a)) (mP (mP a (sqN 1 a)) (sqN 3 a)))).size = 4 := rfl))
 clear c_p00 c_p01 c_p02 c_p03
 clear c_el0 c_el1 c_el2 c_el3
 clear hst hs4
 go_wp2_with fail
 refine zh (v := fe (mP (sqN 5 (Jo a)) (mP (mP a (sqN 1 a)) (sqN 3 a)))) (results_cell_row Tryz.results92 _ _ (w.heap.size + 1) 80 (qb (mP (sqN 5 (Jo a)) (mP (mP a (sqN 1 a)) (sqN 3 a)))) (0, 0) _ (by rfl) (zd _ _ _ _ _ _ ((K1_2.o.block _ Z1.o).trans RZ.o)) jC rfl (jc _)) rfl ⟨rfl, ze (BL1.o.trans (K1_2.o.mono BL1.o.size)) (by omega) _⟩
theorem qbi : (Tryz.prog.info? 59).map (·.size) = some 1 := by kernel_rfl
theorem qm1 : Tryz.prog.underlying 59 = some (.int .u64) := by kernel_rfl
theorem Y9 (xs : Array Value) (i : Nat) (x : Int) (h : xs[i]? = some (.int .u64 x)) (w : World) : (part 59 xs i).run Tryz.prog w = .ok (.int .u64 x) w := by
 cases hq : Tryz.prog.info? 59 with
 | none => have := qbi; rw [hq] at this; cases this
 | some inf =>
  have hi : inf.size = 1 := by have := qbi; rw [hq] at this; simpa using this
  simp [part, sizeOf, typeInfo, hq, hi, h]
theorem qsR (a0 a1 a2 a3 b0 b1 b2 b3 : Nat) (w : World) :
  (Op.equalIn 10000 80 (.agg #[nv a0, nv a1, nv a2, nv a3]) (.agg #[nv b0, nv b1, nv b2, nv b3])).run Tryz.prog w = .ok (V a0 == V b0 && (V a1 == V b1 && (V a2 == V b2 && V a3 == V b3))) w := by
 cases hq : Tryz.prog.info? 59 with
 | none => have := qbi; rw [hq] at this; cases this
 | some inf =>
  have hi : inf.size = 1 := by have := qbi; rw [hq] at this; simpa using this
  rw [show (10000 : Nat) = 9998 + 1 + 1 from rfl]
  unfold Op.equalIn
  simp only [Sem.run_bind, run_underlying jC, Result.andThen_ok]
  simp [sizeOf, typeInfo, hq, hi, Std.Legacy.Range.forIn_eq_forIn_range']
  have p0 := Y9 #[nv a0, nv a1, nv a2, nv a3] 0 (V a0) rfl w
  have p1 := Y9 #[nv a0, nv a1, nv a2, nv a3] 1 (V a1) rfl w
  have p2 := Y9 #[nv a0, nv a1, nv a2, nv a3] 2 (V a2) rfl w
  have p3 := Y9 #[nv a0, nv a1, nv a2, nv a3] 3 (V a3) rfl w
  have q0 := Y9 #[nv b0, nv b1, nv b2, nv b3] 0 (V b0) rfl w
  have q1 := Y9 #[nv b0, nv b1, nv b2, nv b3] 1 (V b1) rfl w
  have q2 := Y9 #[nv b0, nv b1, nv b2, nv b3] 2 (V b2) rfl w
  have q3 := Y9 #[nv b0, nv b1, nv b2, nv b3] 3 (V b3) rfl w
  have e := fun x y : Int => run_equalIn_int (P := Tryz.prog) w 9998 59 .u64 .u64 x y qm1
  generalize V a0 = x0 at *
  generalize V a1 = x1 at *
  generalize V a2 = x2 at *
  generalize V a3 = x3 at *
  generalize V b0 = y0 at *
  generalize V b1 = y1 at *
  generalize V b2 = y2 at *
  generalize V b3 = y3 at *
  by_cases h0 : x0 = y0 <;> by_cases h1 : x1 = y1 <;> by_cases h2 : x2 = y2 <;> by_cases h3 : x3 = y3 <;>
   simp [List.range', List.forIn_cons, p0, p1, p2, p3, q0, q1, q2, q3, e, h0, h1, h2, h3]
theorem qtL {a b : Nat} (ha : a < P) (hb : b < P) (h0 : wd a 0 = wd b 0) (h1 : wd a 1 = wd b 1) (h2 : wd a 2 = wd b 2) (h3 : wd a 3 = wd b 3) : a = b := by
 have la : a < 57896044618658097711785492504343953926634992332820282019728792003956564819949 := ha
 have lb : b < 57896044618658097711785492504343953926634992332820282019728792003956564819949 := hb
 unfold wd at *
 simp only [Nat.reducePow, Nat.pow_zero, Nat.div_one] at *
 omega
theorem qvE (a b : Nat) (ha : a < P) (hb : b < P) (w : World) :
  (Op.equalIn 10000 80 (.agg #[nv (wd a 0), nv (wd a 1), nv (wd a 2), nv (wd a 3)]) (.agg #[nv (wd b 0), nv (wd b 1), nv (wd b 2), nv (wd b 3)])).run Tryz.prog w = .ok (decide (a = b)) w := by
 rw [qsR]
 congr 1
 have vi : ∀ x y : Nat, (V x == V y) = decide (x = y) := by
  intro x y; unfold V
  by_cases h : x = y
  · subst h; simp
  · simp [h]; omega
 simp only [vi]
 by_cases h : a = b
 · subst h; simp
 ·
  simp only [h, decide_false]
  by_cases h0 : wd a 0 = wd b 0 <;> by_cases h1 : wd a 1 = wd b 1 <;> by_cases h2 : wd a 2 = wd b 2 <;> by_cases h3 : wd a 3 = wd b 3 <;> simp [h0, h1, h2, h3]
  exact h (qtL ha hb h0 h1 h2 h3)
theorem qu7 (a b : Nat) (ha : a < P) (hb : b < P) (w : World) : (Op.equalIn 10000 80 (.agg #[nv (wd a 0), nv (wd a 1), nv (wd a 2), nv (wd a 3)]) (fe b)).run Tryz.prog w = .ok (decide (a = b)) w := qvE a b ha hb w
theorem jJ {P : Program} {fn : Func} {p u : Tmp} {ty : TypeId} (h : fn.results = #[.cell p ty, .tmp u]) (tmps : Array Value) (w : World) (g : Nat) (t : TypeId) (cs : Array Value) (fr : Nat × Nat) (d : TypeDesc)
  (hp : tmps.getD p undef = zp g 0) (hg : w.heap[g]? = some (.cells cs t fr))
  (hu : P.underlying ty = some d) (hd : (match d with | .struct _ | .array _ _ => true | _ => false) = true) (hi : (P.info? ty).map (·.size) = some cs.size) :
  (results fn tmps).run P w = .ok (.tuple #[.agg cs, tmps.getD u undef]) w := by
 rw [results_cell_tmp h, hp]
 simp [asAddr, run_loadVar_row w g t ty cs fr d hg hu hd hi]
theorem qbq : qb 0 = qD := by unfold qb wd; rfl
theorem qda : qD.all (·.oneCell') = true := YZ 0 0 0 0
theorem qhS (b : Nat) (hb : b < P) (w : World) :
  zC 119 #[.agg qD, .agg #[nv (wd b 0), nv (wd b 1), nv (wd b 2), nv (wd b 3)]] w (fe (sP 0 b)) := by
 have := JD 0 b j3 hb w
 unfold fe at this
 rw [qbq] at this
 exact this
open Go.RowKit
theorem qvG (x : Nat) (h : x < 18446744073709551616) : bits .and .u64 (V x) 1 = V (x % 2) := by
 have e := bits_and_u64_nat x 1 h (by omega)
 have e2 : x &&& 1 = x % 2 := Nat.and_two_pow_sub_one_eq_mod x 1
 rw [e2] at e
 exact e
theorem qpY (n q : Nat) : wd n q < 18446744073709551616 := Nat.mod_lt _ (by decide)
theorem qoj (n : Nat) : wd n 0 % 2 = n % 2 := by unfold wd; rw [Nat.pow_zero, Nat.div_one]; omega
theorem qhh (a : Nat) (w : World) :
  zC 95 #[fe a] w (.bool (decide (a % 2 = 1))) := by
 have h1 := qvG (wd a 0) (qpY a 0)
 have HB : Hid ((V (wd a 0 % 2) == 1) = decide (a % 2 = 1)) := by
  show _ = _
  rw [qoj]
  have : a % 2 = 0 ∨ a % 2 = 1 := by omega
  rcases this with h | h <;> rw [h] <;> rfl
 show Calls Tryz.prog 95 #[.agg #[nv (wd a 0), nv (wd a 1), nv (wd a 2), nv (wd a 3)]] w _
 go_enter Tryz.func95, Tryz.ntmps95
 go_wp2_with fail
 go_returns
 exact ⟨by rw [← HB.o]; rfl, by go_grown⟩
theorem qp9 (a : Nat) (w : World) :
  zC 94 #[fe a] w (.agg ((qI a 32).map cv).toArray) := by
 have hz := qpt
 show Calls Tryz.prog 94 #[.agg #[nv (wd a 0), nv (wd a 1), nv (wd a 2), nv (wd a 3)]] w _
 go_enter Tryz.func94, Tryz.ntmps94
 go_wp2_with fail
 refine (qoO a _).mono ?_
 rintro e W1 ⟨rfl, hB⟩
 have hz1 := hB.size
 simp only [World.size_alloc] at hB hz1
 obtain ⟨R, HR⟩ := zx ((qI a 32).map cv)
 rw [← HR.o]
 have hRl : R.length = 32 := by rw [HR.o, zv, jM]
 have HSz : Hid ((Tryz.prog.info? 61).map (·.size) = some R.toArray.size) := by show _ = _; rw [qf0]; simp [hRl]
 have HOo : Hid (z32.size = R.toArray.size) := by show _ = _; simp [hRl]; rfl
 have HA : Hid (R.toArray.all (·.oneCell') = true) := by rw [HR.o]; exact all_oneCell_toArray (qaB _)
 have H1 : Hid (qi W1 (w.heap.size + 1) z32 61) := (hB.block _ (by omega)).trans (Zd _ _ _)
 have HB : Hid (zB w W1) := (((zJ _ w).alloc (zm _) _).alloc (by simp) _).trans (hB.mono (by omega))
 clear hB hRl hz
 go_wp2_with (first | (refine qB 61 (.tmp 2) (.tmp 4) (w.heap.size + 1) R.toArray H1.o HSz.o HOo.o HA.o ?_))
 refine zh (v := .agg R.toArray) (results_cell_row Tryz.results94 _ _ (w.heap.size + 1) 61 R.toArray (0, 0) _ (by rfl) (zd _ _ _ _ _ _ H1.o) kL rfl HSz.o) rfl ⟨by rw [HR.o], ze HB.o (by omega) _⟩
theorem qhB : (Tryz.prog.info? 5).map (·.size) = some 1 := by kernel_rfl
theorem Jv : Tryz.prog.underlying 5 = some (.int .u8) := by kernel_rfl
theorem JA : Tryz.prog.underlying 9 = some .string := by kernel_rfl
theorem Jt : Tryz.prog.underlying 89 = some (.slice 5) := by kernel_rfl
theorem qpf (w : World) (q : Nat) (l : List UInt8) (hl : l.length = 32) (T : TypeId) (h : w.heap[q]? = some (.cells (l.map cv).toArray T (0, 0))) :
  (convert 89 9 (.slice (some ⟨q, 0, none⟩) 32 32)).run Tryz.prog w = .ok (.string (jk l)) w := by
 have e := run_convert_bytes_back (P := Tryz.prog) w 89 9 5 ⟨q, 0, none⟩ 32 l Jt Jv JA (fun i hi => by
  rw [Addr.add_mid, Zb, zj w q i _ T _ h]
  simp [hi, C8])
 rw [hl] at e
 exact e
def ksB (s : ByteArray) : List UInt8 := if s.size = 32 then bytesOf s else List.replicate 32 0
def ksO (s : ByteArray) : Bool := decide (s.size = 32)
theorem qi5 (s : ByteArray) : (ksB s).length = 32 := by
 unfold ksB; split
 · rename_i h; rw [jY, h]
 · simp
end Go.Proofs.YtccgfabojbjmjaaGreatDoor
