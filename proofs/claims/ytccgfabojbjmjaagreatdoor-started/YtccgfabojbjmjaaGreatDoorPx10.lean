import Derived.Test.YtccgfabojbjmjaaGreatDoorPx08
import Derived.Deep.RegionHeld3
import Derived.Deep.CutRange
import Derived.Laws.ResultCell
namespace Go.Proofs.YtccgfabojbjmjaaGreatDoor
open Go.RowKit
theorem at2_0 (w : World) (A B : Obj) : ((w.alloc A).alloc B).heap[w.heap.size]? = some A := by rw [heap_alloc_old _ _ (by simp)]; exact heap_alloc_new _ _
theorem at2_1 (w : World) (A B : Obj) : ((w.alloc A).alloc B).heap[w.heap.size + 1]? = some B := heap_alloc2_new _ _ _
theorem at3_0 (w : World) (A B C : Obj) : (((w.alloc A).alloc B).alloc C).heap[w.heap.size]? = some A := heap3_0 _ _ _ _
theorem at3_1 (w : World) (A B C : Obj) : (((w.alloc A).alloc B).alloc C).heap[w.heap.size + 1]? = some B := heap3_1 _ _ _ _
theorem at3_2 (w : World) (A B C : Obj) : (((w.alloc A).alloc B).alloc C).heap[w.heap.size + 2]? = some C := heap3_2 _ _ _ _
theorem c4_below {w w' : World} {b a B : Nat} (h : C4 w b a) (hB : Below B w w') (hb : b < B) : C4 w' b a := ⟨(hB.cell hb).trans h.1, (hB.cell hb).trans h.2.1, (hB.cell hb).trans h.2.2.1, (hB.cell hb).trans h.2.2.2⟩
theorem cell_alloc {w : World} {b i : Nat} {v : Value} (h : w.cell? ⟨b, i, none⟩ = some v) (o : Obj) : (w.alloc o).cell? ⟨b, i, none⟩ = some v :=
 (World.cell?_alloc_lt _ _ _ (World.block_lt_of_cell? w _ h)).trans h
theorem c4_alloc {w : World} {b a : Nat} (h : C4 w b a) (o : Obj) : C4 (w.alloc o) b a := ⟨cell_alloc h.1 o, cell_alloc h.2.1 o, cell_alloc h.2.2.1 o, cell_alloc h.2.2.2 o⟩
theorem undrew {B : Nat} {w w' : World} (h : Below B w.drew w') : Below B w w' := ⟨h.os, h.tape, h.output, h.size, h.block⟩
theorem c4_set {w : World} {b a g : Nat} {cs : Array Value} (h : C4 w b a) (hg : b ≠ g) : C4 (w.setRow g cs) b a := by
 have e := setRow_other w g b cs hg
 exact ⟨(World.cell?_of_block e).trans h.1, (World.cell?_of_block e).trans h.2.1, (World.cell?_of_block e).trans h.2.2.1, (World.cell?_of_block e).trans h.2.2.2⟩
def lgN (a : Nat) : Nat :=
 let u2 := mP (sqN 1 a) a
 let u4 := mP (sqN 2 u2) u2
 let u5 := mP (sqN 1 u4) a
 let u10 := mP (sqN 5 u5) u5
 let u20 := mP (sqN 10 u10) u10
 let u40 := mP (sqN 20 u20) u20
 let u50 := mP (sqN 10 u40) u10
 let u100 := mP (sqN 50 u50) u50
 let u200 := mP (sqN 100 u100) u100
 mP (sqN 50 u200) u50
theorem lgN_lt (a : Nat) : lgN a < P := mP_lt _ _
set_option maxRecDepth 100000 in
set_option maxHeartbeats 2000000 in
theorem feLong (a : Nat) (ha : a < P) (w : World) :
  Calls Tryz.prog 142 #[fe a] w fun e w' => e = .returned (fe (lgN a)) ∧ Below w.heap.size w w' := by
 have Ha := hide ha
 clear ha
 go_enter Tryz.func142, Tryz.ntmps142
 go_wp2_with fail
 obtain ⟨W0, hW0⟩ : ∃ W0, W0 = ((w.alloc (.cells (num4A a) 80)).alloc (.cells zero4 80)) := ⟨_, rfl⟩
 rw [← hW0]
 have R0 : Hid (W0.heap[w.heap.size]? = some (.cells (num4A a) 80 (0, 0))) := by rw [hW0]; exact at2_0 _ _ _
 have RZ : Hid (W0.heap[w.heap.size + 1]? = some (.cells zero4 80 (0, 0))) := by rw [hW0]; exact at2_1 _ _ _
 have BL0 : Hid (Below w.heap.size w W0) := by rw [hW0]; show Below _ _ _; go_grown
 have Z0 : Hid (w.heap.size + 1 < W0.heap.size) := lt_of_row RZ.out
 clear hW0
 go_upto_region 1 with fail
 go_cut [3] from 12 to 15 (fun s wx => ∃ g, s = .pointer (some ⟨g, 0, none⟩) ∧ Hid (W0.heap.size ≤ g) ∧ Hid (wx.heap[g]? = some (.cells (num4A (mP (sqN 1 a) a)) 80 (0, 0))) ∧ Hid (Below W0.heap.size W0 wx))
 case first =>
  obtain ⟨c_p00, c_p01, c_p02, c_p03⟩ := c4_of R0.out
  go_region_held3 (fun w' => C4 w' (w.heap.size) (a))
   (first | exact c4_set (c4_alloc (c4_below (c4_of R0.out) K0_1.out (lt_of_row R0.out)) _) (by have h0 := lt_of_row R0.out; have h1 := K0_0.out.size; have h2 := K0_1.out.size; have h9 := Z0.out; omega) | exact c4_set (c4_below (c4_of R0.out) K0_1.out (lt_of_row R0.out)) (by have h0 := lt_of_row R0.out; have h1 := K0_0.out.size; have h2 := K0_1.out.size; have h9 := Z0.out; omega) | exact (c4_below (c4_of R0.out) K0_1.out (lt_of_row R0.out)) | exact c4_alloc (c4_below (c4_of R0.out) K0_1.out (lt_of_row R0.out)) _ | exact (c4_below (c4_of R0.out) K0_0.out (lt_of_row R0.out)) | exact c4_alloc (c4_below (c4_of R0.out) K0_0.out (lt_of_row R0.out)) _ | exact c4_of R0.out | exact c4_alloc (w := W0.drew) (c4_of R0.out) _ | go_keep)
   (first
    | (go_at_call 141; refine (feSquared a 1 Ha.out (by decide) _).mono ?_; rintro e V0_0 ⟨rfl, HB⟩; have K0_0 : Hid (Below W0.heap.size W0 V0_0) := (by first | exact hide (undrew HB) | exact hide (Below.trans (Below.alloc (Below.drew (Below.refl _ _)) (Nat.le_refl _) _) (HB.mono (by simp)))); (first | (have ZZ := hide (row_keep (heap_alloc_new _ (.cells zero4 80)) HB)) | (have ZZ := hide (row_keep (w := (W0.alloc (.cells zero4 80)).drew) (heap_alloc_new W0 (.cells zero4 80)) HB)) | (have ZZ := hide (row_keep ZZ.out HB)) | skip); clear HB)
    | (go_at_call 93; refine (feTimes (sqN 1 a) a (sqN_lt 1 _ Ha.out) Ha.out _).mono ?_; rintro e V0_1 ⟨rfl, HB⟩; have K0_1 : Hid (Below W0.heap.size W0 V0_1) := (by first | exact hide (K0_0.out.trans (HB.mono K0_0.out.size)) | exact hide ((K0_0.out.alloc K0_0.out.size _).trans (HB.mono (by have := K0_0.out.size; simp; omega)))); (first | (have ZZ := hide (row_keep (heap_alloc_new _ (.cells zero4 80)) HB)) | (have ZZ := hide (row_keep (w := (W0.alloc (.cells zero4 80)).drew) (heap_alloc_new W0 (.cells zero4 80)) HB)) | (have ZZ := hide (row_keep ZZ.out HB)) | skip); clear HB; (first | (have hst := storeRow_run (P := Tryz.prog) (cs := num4A (mP (sqN 1 a) a)) ZZ.out rfl (num4A_all _)) | (have hst := storeRow_run (P := Tryz.prog) (w := V0_1.alloc (.cells zero4 80)) (cs := num4A (mP (sqN 1 a) a)) (heap_alloc_new _ _) rfl (num4A_all _))); have hs4 : (num4A (mP (sqN 1 a) a)).size = 4 := rfl))
  all_goals (
   clear c_p00 c_p01 c_p02 c_p03
   clear hst hs4
   go_wp2_with fail
   go_meet
   case rel => first | exact ⟨_, rfl, hide (by have h1 := K0_0.out.size; have h2 := K0_1.out.size; omega), hide (setRow_heap _ _ _ _ _ _ ZZ.out), hide (below_setRow K0_1.out (by have h1 := K0_0.out.size; have h2 := K0_1.out.size; omega) _)⟩ | exact ⟨_, rfl, hide (by have h1 := K0_0.out.size; have h2 := K0_1.out.size; omega), hide (setRow_heap _ _ _ _ _ _ (heap_alloc_new _ _)), hide (below_setRow (K0_1.out.alloc K0_1.out.size _) (by have h1 := K0_0.out.size; have h2 := K0_1.out.size; omega) _)⟩)
 case rest =>
 obtain ⟨g1, rfl, G1, Q1, X1⟩ := hcut
 obtain ⟨W1, hW1⟩ : ∃ W1, W1 = wc := ⟨_, rfl⟩
 subst hW1
 have BL1 : Hid (Below w.heap.size w W1) := BL0.out.trans (X1.out.mono BL0.out.size)
 have Z1 : Hid (w.heap.size + 1 < W1.heap.size) := by show _ < _; have := Z0.out; have := X1.out.size; omega
 replace R0 := hide (row_below R0.out X1.out (lt_of_row R0.out))
 replace RZ := hide (row_below RZ.out X1.out Z0.out)
 have N1 : Hid (w.heap.size + 1 < g1) := by show _ < _; have := G1.out; have := Z0.out; omega
 clear X1 BL0 Z0 G1
 obtain ⟨u2, Eu2⟩ : ∃ u2, Hid (u2 = mP (sqN 1 a) a) := ⟨_, rfl⟩
 have Hu2 : Hid (u2 < P) := by rw [Eu2.out]; exact mP_lt _ _
 rw [← Eu2.out] at Q1
 go_upto_region 2 with fail
 go_cut [4] from 16 to 19 (fun s wx => ∃ g, s = .pointer (some ⟨g, 0, none⟩) ∧ Hid (W1.heap.size ≤ g) ∧ Hid (wx.heap[g]? = some (.cells (num4A (mP (sqN 2 u2) u2)) 80 (0, 0))) ∧ Hid (Below W1.heap.size W1 wx))
 case first =>
  obtain ⟨c_u20, c_u21, c_u22, c_u23⟩ := c4_of Q1.out
  go_region_held3 (fun w' => C4 w' (g1) (u2))
   (first | exact c4_set (c4_alloc (c4_below (c4_of Q1.out) K1_1.out (lt_of_row Q1.out)) _) (by have h0 := lt_of_row Q1.out; have h1 := K1_0.out.size; have h2 := K1_1.out.size; have h9 := Z1.out; have n1 := N1.out; omega) | exact c4_set (c4_below (c4_of Q1.out) K1_1.out (lt_of_row Q1.out)) (by have h0 := lt_of_row Q1.out; have h1 := K1_0.out.size; have h2 := K1_1.out.size; have h9 := Z1.out; have n1 := N1.out; omega) | exact (c4_below (c4_of Q1.out) K1_1.out (lt_of_row Q1.out)) | exact c4_alloc (c4_below (c4_of Q1.out) K1_1.out (lt_of_row Q1.out)) _ | exact (c4_below (c4_of Q1.out) K1_0.out (lt_of_row Q1.out)) | exact c4_alloc (c4_below (c4_of Q1.out) K1_0.out (lt_of_row Q1.out)) _ | exact c4_of Q1.out | exact c4_alloc (w := W1.drew) (c4_of Q1.out) _ | go_keep)
   (first
    | (go_at_call 141; refine (feSquared u2 2 Hu2.out (by decide) _).mono ?_; rintro e V1_0 ⟨rfl, HB⟩; have K1_0 : Hid (Below W1.heap.size W1 V1_0) := (by first | exact hide (undrew HB) | exact hide (Below.trans (Below.alloc (Below.drew (Below.refl _ _)) (Nat.le_refl _) _) (HB.mono (by simp)))); (first | (have ZZ := hide (row_keep (heap_alloc_new _ (.cells zero4 80)) HB)) | (have ZZ := hide (row_keep (w := (W1.alloc (.cells zero4 80)).drew) (heap_alloc_new W1 (.cells zero4 80)) HB)) | (have ZZ := hide (row_keep ZZ.out HB)) | skip); clear HB)
    | (go_at_call 93; refine (feTimes (sqN 2 u2) u2 (sqN_lt 2 _ Hu2.out) Hu2.out _).mono ?_; rintro e V1_1 ⟨rfl, HB⟩; have K1_1 : Hid (Below W1.heap.size W1 V1_1) := (by first | exact hide (K1_0.out.trans (HB.mono K1_0.out.size)) | exact hide ((K1_0.out.alloc K1_0.out.size _).trans (HB.mono (by have := K1_0.out.size; simp; omega)))); (first | (have ZZ := hide (row_keep (heap_alloc_new _ (.cells zero4 80)) HB)) | (have ZZ := hide (row_keep (w := (W1.alloc (.cells zero4 80)).drew) (heap_alloc_new W1 (.cells zero4 80)) HB)) | (have ZZ := hide (row_keep ZZ.out HB)) | skip); clear HB; (first | (have hst := storeRow_run (P := Tryz.prog) (cs := num4A (mP (sqN 2 u2) u2)) ZZ.out rfl (num4A_all _)) | (have hst := storeRow_run (P := Tryz.prog) (w := V1_1.alloc (.cells zero4 80)) (cs := num4A (mP (sqN 2 u2) u2)) (heap_alloc_new _ _) rfl (num4A_all _))); have hs4 : (num4A (mP (sqN 2 u2) u2)).size = 4 := rfl))
  all_goals (
   clear c_u20 c_u21 c_u22 c_u23
   clear hst hs4
   go_wp2_with fail
   go_meet
   case rel => first | exact ⟨_, rfl, hide (by have h1 := K1_0.out.size; have h2 := K1_1.out.size; omega), hide (setRow_heap _ _ _ _ _ _ ZZ.out), hide (below_setRow K1_1.out (by have h1 := K1_0.out.size; have h2 := K1_1.out.size; omega) _)⟩ | exact ⟨_, rfl, hide (by have h1 := K1_0.out.size; have h2 := K1_1.out.size; omega), hide (setRow_heap _ _ _ _ _ _ (heap_alloc_new _ _)), hide (below_setRow (K1_1.out.alloc K1_1.out.size _) (by have h1 := K1_0.out.size; have h2 := K1_1.out.size; omega) _)⟩)
 case rest =>
 obtain ⟨g2, rfl, G2, Q2, X2⟩ := hcut
 obtain ⟨W2, hW2⟩ : ∃ W2, W2 = wc := ⟨_, rfl⟩
 subst hW2
 have BL2 : Hid (Below w.heap.size w W2) := BL1.out.trans (X2.out.mono BL1.out.size)
 have Z2 : Hid (w.heap.size + 1 < W2.heap.size) := by show _ < _; have := Z1.out; have := X2.out.size; omega
 replace R0 := hide (row_below R0.out X2.out (lt_of_row R0.out))
 replace Q1 := hide (row_below Q1.out X2.out (lt_of_row Q1.out))
 replace RZ := hide (row_below RZ.out X2.out Z1.out)
 have N2 : Hid (w.heap.size + 1 < g2) := by show _ < _; have := G2.out; have := Z1.out; omega
 clear X2 BL1 Z1 G2
 obtain ⟨u4, Eu4⟩ : ∃ u4, Hid (u4 = mP (sqN 2 u2) u2) := ⟨_, rfl⟩
 have Hu4 : Hid (u4 < P) := by rw [Eu4.out]; exact mP_lt _ _
 rw [← Eu4.out] at Q2
 go_upto_region 3 with fail
 go_cut [5] from 20 to 23 (fun s wx => ∃ g, s = .pointer (some ⟨g, 0, none⟩) ∧ Hid (W2.heap.size ≤ g) ∧ Hid (wx.heap[g]? = some (.cells (num4A (mP (sqN 1 u4) a)) 80 (0, 0))) ∧ Hid (Below W2.heap.size W2 wx))
 case first =>
  obtain ⟨c_u40, c_u41, c_u42, c_u43⟩ := c4_of Q2.out
  obtain ⟨c_p00, c_p01, c_p02, c_p03⟩ := c4_of R0.out
  go_region_held3 (fun w' => C4 w' (g2) (u4) ∧ C4 w' (w.heap.size) (a))
   (first | exact ⟨c4_set (c4_alloc (c4_below (c4_of Q2.out) K2_1.out (lt_of_row Q2.out)) _) (by have h0 := lt_of_row Q2.out; have h1 := K2_0.out.size; have h2 := K2_1.out.size; have h9 := Z2.out; have n1 := N1.out; have n2 := N2.out; omega), c4_set (c4_alloc (c4_below (c4_of R0.out) K2_1.out (lt_of_row R0.out)) _) (by have h0 := lt_of_row R0.out; have h1 := K2_0.out.size; have h2 := K2_1.out.size; have h9 := Z2.out; have n1 := N1.out; have n2 := N2.out; omega)⟩ | exact ⟨c4_set (c4_below (c4_of Q2.out) K2_1.out (lt_of_row Q2.out)) (by have h0 := lt_of_row Q2.out; have h1 := K2_0.out.size; have h2 := K2_1.out.size; have h9 := Z2.out; have n1 := N1.out; have n2 := N2.out; omega), c4_set (c4_below (c4_of R0.out) K2_1.out (lt_of_row R0.out)) (by have h0 := lt_of_row R0.out; have h1 := K2_0.out.size; have h2 := K2_1.out.size; have h9 := Z2.out; have n1 := N1.out; have n2 := N2.out; omega)⟩ | exact ⟨(c4_below (c4_of Q2.out) K2_1.out (lt_of_row Q2.out)), (c4_below (c4_of R0.out) K2_1.out (lt_of_row R0.out))⟩ | exact ⟨c4_alloc (c4_below (c4_of Q2.out) K2_1.out (lt_of_row Q2.out)) _, c4_alloc (c4_below (c4_of R0.out) K2_1.out (lt_of_row R0.out)) _⟩ | exact ⟨(c4_below (c4_of Q2.out) K2_0.out (lt_of_row Q2.out)), (c4_below (c4_of R0.out) K2_0.out (lt_of_row R0.out))⟩ | exact ⟨c4_alloc (c4_below (c4_of Q2.out) K2_0.out (lt_of_row Q2.out)) _, c4_alloc (c4_below (c4_of R0.out) K2_0.out (lt_of_row R0.out)) _⟩ | exact ⟨c4_of Q2.out, c4_of R0.out⟩ | exact ⟨c4_alloc (w := W2.drew) (c4_of Q2.out) _, c4_alloc (w := W2.drew) (c4_of R0.out) _⟩ | go_keep)
   (first
    | (go_at_call 141; refine (feSquared u4 1 Hu4.out (by decide) _).mono ?_; rintro e V2_0 ⟨rfl, HB⟩; have K2_0 : Hid (Below W2.heap.size W2 V2_0) := (by first | exact hide (undrew HB) | exact hide (Below.trans (Below.alloc (Below.drew (Below.refl _ _)) (Nat.le_refl _) _) (HB.mono (by simp)))); (first | (have ZZ := hide (row_keep (heap_alloc_new _ (.cells zero4 80)) HB)) | (have ZZ := hide (row_keep (w := (W2.alloc (.cells zero4 80)).drew) (heap_alloc_new W2 (.cells zero4 80)) HB)) | (have ZZ := hide (row_keep ZZ.out HB)) | skip); clear HB)
    | (go_at_call 93; refine (feTimes (sqN 1 u4) a (sqN_lt 1 _ Hu4.out) Ha.out _).mono ?_; rintro e V2_1 ⟨rfl, HB⟩; have K2_1 : Hid (Below W2.heap.size W2 V2_1) := (by first | exact hide (K2_0.out.trans (HB.mono K2_0.out.size)) | exact hide ((K2_0.out.alloc K2_0.out.size _).trans (HB.mono (by have := K2_0.out.size; simp; omega)))); (first | (have ZZ := hide (row_keep (heap_alloc_new _ (.cells zero4 80)) HB)) | (have ZZ := hide (row_keep (w := (W2.alloc (.cells zero4 80)).drew) (heap_alloc_new W2 (.cells zero4 80)) HB)) | (have ZZ := hide (row_keep ZZ.out HB)) | skip); clear HB; (first | (have hst := storeRow_run (P := Tryz.prog) (cs := num4A (mP (sqN 1 u4) a)) ZZ.out rfl (num4A_all _)) | (have hst := storeRow_run (P := Tryz.prog) (w := V2_1.alloc (.cells zero4 80)) (cs := num4A (mP (sqN 1 u4) a)) (heap_alloc_new _ _) rfl (num4A_all _))); have hs4 : (num4A (mP (sqN 1 u4) a)).size = 4 := rfl))
  all_goals (
   clear c_u40 c_u41 c_u42 c_u43
   clear c_p00 c_p01 c_p02 c_p03
   clear hst hs4
   go_wp2_with fail
   go_meet
   case rel => first | exact ⟨_, rfl, hide (by have h1 := K2_0.out.size; have h2 := K2_1.out.size; omega), hide (setRow_heap _ _ _ _ _ _ ZZ.out), hide (below_setRow K2_1.out (by have h1 := K2_0.out.size; have h2 := K2_1.out.size; omega) _)⟩ | exact ⟨_, rfl, hide (by have h1 := K2_0.out.size; have h2 := K2_1.out.size; omega), hide (setRow_heap _ _ _ _ _ _ (heap_alloc_new _ _)), hide (below_setRow (K2_1.out.alloc K2_1.out.size _) (by have h1 := K2_0.out.size; have h2 := K2_1.out.size; omega) _)⟩)
 case rest =>
 obtain ⟨g3, rfl, G3, Q3, X3⟩ := hcut
 obtain ⟨W3, hW3⟩ : ∃ W3, W3 = wc := ⟨_, rfl⟩
 subst hW3
 have BL3 : Hid (Below w.heap.size w W3) := BL2.out.trans (X3.out.mono BL2.out.size)
 have Z3 : Hid (w.heap.size + 1 < W3.heap.size) := by show _ < _; have := Z2.out; have := X3.out.size; omega
 replace R0 := hide (row_below R0.out X3.out (lt_of_row R0.out))
 replace Q1 := hide (row_below Q1.out X3.out (lt_of_row Q1.out))
 replace Q2 := hide (row_below Q2.out X3.out (lt_of_row Q2.out))
 replace RZ := hide (row_below RZ.out X3.out Z2.out)
 have N3 : Hid (w.heap.size + 1 < g3) := by show _ < _; have := G3.out; have := Z2.out; omega
 clear X3 BL2 Z2 G3
 obtain ⟨u5, Eu5⟩ : ∃ u5, Hid (u5 = mP (sqN 1 u4) a) := ⟨_, rfl⟩
 have Hu5 : Hid (u5 < P) := by rw [Eu5.out]; exact mP_lt _ _
 rw [← Eu5.out] at Q3
 go_upto_region 4 with fail
 go_cut [6] from 24 to 27 (fun s wx => ∃ g, s = .pointer (some ⟨g, 0, none⟩) ∧ Hid (W3.heap.size ≤ g) ∧ Hid (wx.heap[g]? = some (.cells (num4A (mP (sqN 5 u5) u5)) 80 (0, 0))) ∧ Hid (Below W3.heap.size W3 wx))
 case first =>
  obtain ⟨c_u50, c_u51, c_u52, c_u53⟩ := c4_of Q3.out
  go_region_held3 (fun w' => C4 w' (g3) (u5))
   (first | exact c4_set (c4_alloc (c4_below (c4_of Q3.out) K3_1.out (lt_of_row Q3.out)) _) (by have h0 := lt_of_row Q3.out; have h1 := K3_0.out.size; have h2 := K3_1.out.size; have h9 := Z3.out; have n1 := N1.out; have n2 := N2.out; have n3 := N3.out; omega) | exact c4_set (c4_below (c4_of Q3.out) K3_1.out (lt_of_row Q3.out)) (by have h0 := lt_of_row Q3.out; have h1 := K3_0.out.size; have h2 := K3_1.out.size; have h9 := Z3.out; have n1 := N1.out; have n2 := N2.out; have n3 := N3.out; omega) | exact (c4_below (c4_of Q3.out) K3_1.out (lt_of_row Q3.out)) | exact c4_alloc (c4_below (c4_of Q3.out) K3_1.out (lt_of_row Q3.out)) _ | exact (c4_below (c4_of Q3.out) K3_0.out (lt_of_row Q3.out)) | exact c4_alloc (c4_below (c4_of Q3.out) K3_0.out (lt_of_row Q3.out)) _ | exact c4_of Q3.out | exact c4_alloc (w := W3.drew) (c4_of Q3.out) _ | go_keep)
   (first
    | (go_at_call 141; refine (feSquared u5 5 Hu5.out (by decide) _).mono ?_; rintro e V3_0 ⟨rfl, HB⟩; have K3_0 : Hid (Below W3.heap.size W3 V3_0) := (by first | exact hide (undrew HB) | exact hide (Below.trans (Below.alloc (Below.drew (Below.refl _ _)) (Nat.le_refl _) _) (HB.mono (by simp)))); (first | (have ZZ := hide (row_keep (heap_alloc_new _ (.cells zero4 80)) HB)) | (have ZZ := hide (row_keep (w := (W3.alloc (.cells zero4 80)).drew) (heap_alloc_new W3 (.cells zero4 80)) HB)) | (have ZZ := hide (row_keep ZZ.out HB)) | skip); clear HB)
    | (go_at_call 93; refine (feTimes (sqN 5 u5) u5 (sqN_lt 5 _ Hu5.out) Hu5.out _).mono ?_; rintro e V3_1 ⟨rfl, HB⟩; have K3_1 : Hid (Below W3.heap.size W3 V3_1) := (by first | exact hide (K3_0.out.trans (HB.mono K3_0.out.size)) | exact hide ((K3_0.out.alloc K3_0.out.size _).trans (HB.mono (by have := K3_0.out.size; simp; omega)))); (first | (have ZZ := hide (row_keep (heap_alloc_new _ (.cells zero4 80)) HB)) | (have ZZ := hide (row_keep (w := (W3.alloc (.cells zero4 80)).drew) (heap_alloc_new W3 (.cells zero4 80)) HB)) | (have ZZ := hide (row_keep ZZ.out HB)) | skip); clear HB; (first | (have hst := storeRow_run (P := Tryz.prog) (cs := num4A (mP (sqN 5 u5) u5)) ZZ.out rfl (num4A_all _)) | (have hst := storeRow_run (P := Tryz.prog) (w := V3_1.alloc (.cells zero4 80)) (cs := num4A (mP (sqN 5 u5) u5)) (heap_alloc_new _ _) rfl (num4A_all _))); have hs4 : (num4A (mP (sqN 5 u5) u5)).size = 4 := rfl))
  all_goals (
   clear c_u50 c_u51 c_u52 c_u53
   clear hst hs4
   go_wp2_with fail
   go_meet
   case rel => first | exact ⟨_, rfl, hide (by have h1 := K3_0.out.size; have h2 := K3_1.out.size; omega), hide (setRow_heap _ _ _ _ _ _ ZZ.out), hide (below_setRow K3_1.out (by have h1 := K3_0.out.size; have h2 := K3_1.out.size; omega) _)⟩ | exact ⟨_, rfl, hide (by have h1 := K3_0.out.size; have h2 := K3_1.out.size; omega), hide (setRow_heap _ _ _ _ _ _ (heap_alloc_new _ _)), hide (below_setRow (K3_1.out.alloc K3_1.out.size _) (by have h1 := K3_0.out.size; have h2 := K3_1.out.size; omega) _)⟩)
 case rest =>
 obtain ⟨g4, rfl, G4, Q4, X4⟩ := hcut
 obtain ⟨W4, hW4⟩ : ∃ W4, W4 = wc := ⟨_, rfl⟩
 subst hW4
 have BL4 : Hid (Below w.heap.size w W4) := BL3.out.trans (X4.out.mono BL3.out.size)
 have Z4 : Hid (w.heap.size + 1 < W4.heap.size) := by show _ < _; have := Z3.out; have := X4.out.size; omega
 replace R0 := hide (row_below R0.out X4.out (lt_of_row R0.out))
 replace Q1 := hide (row_below Q1.out X4.out (lt_of_row Q1.out))
 replace Q2 := hide (row_below Q2.out X4.out (lt_of_row Q2.out))
 replace Q3 := hide (row_below Q3.out X4.out (lt_of_row Q3.out))
 replace RZ := hide (row_below RZ.out X4.out Z3.out)
 have N4 : Hid (w.heap.size + 1 < g4) := by show _ < _; have := G4.out; have := Z3.out; omega
 clear X4 BL3 Z3 G4
 obtain ⟨u10, Eu10⟩ : ∃ u10, Hid (u10 = mP (sqN 5 u5) u5) := ⟨_, rfl⟩
 have Hu10 : Hid (u10 < P) := by rw [Eu10.out]; exact mP_lt _ _
 rw [← Eu10.out] at Q4
 go_upto_region 5 with fail
 go_cut [7] from 28 to 31 (fun s wx => ∃ g, s = .pointer (some ⟨g, 0, none⟩) ∧ Hid (W4.heap.size ≤ g) ∧ Hid (wx.heap[g]? = some (.cells (num4A (mP (sqN 10 u10) u10)) 80 (0, 0))) ∧ Hid (Below W4.heap.size W4 wx))
 case first =>
  obtain ⟨c_u100, c_u101, c_u102, c_u103⟩ := c4_of Q4.out
  go_region_held3 (fun w' => C4 w' (g4) (u10))
   (first | exact c4_set (c4_alloc (c4_below (c4_of Q4.out) K4_1.out (lt_of_row Q4.out)) _) (by have h0 := lt_of_row Q4.out; have h1 := K4_0.out.size; have h2 := K4_1.out.size; have h9 := Z4.out; have n1 := N1.out; have n2 := N2.out; have n3 := N3.out; have n4 := N4.out; omega) | exact c4_set (c4_below (c4_of Q4.out) K4_1.out (lt_of_row Q4.out)) (by have h0 := lt_of_row Q4.out; have h1 := K4_0.out.size; have h2 := K4_1.out.size; have h9 := Z4.out; have n1 := N1.out; have n2 := N2.out; have n3 := N3.out; have n4 := N4.out; omega) | exact (c4_below (c4_of Q4.out) K4_1.out (lt_of_row Q4.out)) | exact c4_alloc (c4_below (c4_of Q4.out) K4_1.out (lt_of_row Q4.out)) _ | exact (c4_below (c4_of Q4.out) K4_0.out (lt_of_row Q4.out)) | exact c4_alloc (c4_below (c4_of Q4.out) K4_0.out (lt_of_row Q4.out)) _ | exact c4_of Q4.out | exact c4_alloc (w := W4.drew) (c4_of Q4.out) _ | go_keep)
   (first
    | (go_at_call 141; refine (feSquared u10 10 Hu10.out (by decide) _).mono ?_; rintro e V4_0 ⟨rfl, HB⟩; have K4_0 : Hid (Below W4.heap.size W4 V4_0) := (by first | exact hide (undrew HB) | exact hide (Below.trans (Below.alloc (Below.drew (Below.refl _ _)) (Nat.le_refl _) _) (HB.mono (by simp)))); (first | (have ZZ := hide (row_keep (heap_alloc_new _ (.cells zero4 80)) HB)) | (have ZZ := hide (row_keep (w := (W4.alloc (.cells zero4 80)).drew) (heap_alloc_new W4 (.cells zero4 80)) HB)) | (have ZZ := hide (row_keep ZZ.out HB)) | skip); clear HB)
    | (go_at_call 93; refine (feTimes (sqN 10 u10) u10 (sqN_lt 10 _ Hu10.out) Hu10.out _).mono ?_; rintro e V4_1 ⟨rfl, HB⟩; have K4_1 : Hid (Below W4.heap.size W4 V4_1) := (by first | exact hide (K4_0.out.trans (HB.mono K4_0.out.size)) | exact hide ((K4_0.out.alloc K4_0.out.size _).trans (HB.mono (by have := K4_0.out.size; simp; omega)))); (first | (have ZZ := hide (row_keep (heap_alloc_new _ (.cells zero4 80)) HB)) | (have ZZ := hide (row_keep (w := (W4.alloc (.cells zero4 80)).drew) (heap_alloc_new W4 (.cells zero4 80)) HB)) | (have ZZ := hide (row_keep ZZ.out HB)) | skip); clear HB; (first | (have hst := storeRow_run (P := Tryz.prog) (cs := num4A (mP (sqN 10 u10) u10)) ZZ.out rfl (num4A_all _)) | (have hst := storeRow_run (P := Tryz.prog) (w := V4_1.alloc (.cells zero4 80)) (cs := num4A (mP (sqN 10 u10) u10)) (heap_alloc_new _ _) rfl (num4A_all _))); have hs4 : (num4A (mP (sqN 10 u10) u10)).size = 4 := rfl))
  all_goals (
   clear c_u100 c_u101 c_u102 c_u103
   clear hst hs4
   go_wp2_with fail
   go_meet
   case rel => first | exact ⟨_, rfl, hide (by have h1 := K4_0.out.size; have h2 := K4_1.out.size; omega), hide (setRow_heap _ _ _ _ _ _ ZZ.out), hide (below_setRow K4_1.out (by have h1 := K4_0.out.size; have h2 := K4_1.out.size; omega) _)⟩ | exact ⟨_, rfl, hide (by have h1 := K4_0.out.size; have h2 := K4_1.out.size; omega), hide (setRow_heap _ _ _ _ _ _ (heap_alloc_new _ _)), hide (below_setRow (K4_1.out.alloc K4_1.out.size _) (by have h1 := K4_0.out.size; have h2 := K4_1.out.size; omega) _)⟩)
 case rest =>
 obtain ⟨g5, rfl, G5, Q5, X5⟩ := hcut
 obtain ⟨W5, hW5⟩ : ∃ W5, W5 = wc := ⟨_, rfl⟩
 subst hW5
 have BL5 : Hid (Below w.heap.size w W5) := BL4.out.trans (X5.out.mono BL4.out.size)
 have Z5 : Hid (w.heap.size + 1 < W5.heap.size) := by show _ < _; have := Z4.out; have := X5.out.size; omega
 replace R0 := hide (row_below R0.out X5.out (lt_of_row R0.out))
 replace Q1 := hide (row_below Q1.out X5.out (lt_of_row Q1.out))
 replace Q2 := hide (row_below Q2.out X5.out (lt_of_row Q2.out))
 replace Q3 := hide (row_below Q3.out X5.out (lt_of_row Q3.out))
 replace Q4 := hide (row_below Q4.out X5.out (lt_of_row Q4.out))
 replace RZ := hide (row_below RZ.out X5.out Z4.out)
 have N5 : Hid (w.heap.size + 1 < g5) := by show _ < _; have := G5.out; have := Z4.out; omega
 clear X5 BL4 Z4 G5
 obtain ⟨u20, Eu20⟩ : ∃ u20, Hid (u20 = mP (sqN 10 u10) u10) := ⟨_, rfl⟩
 have Hu20 : Hid (u20 < P) := by rw [Eu20.out]; exact mP_lt _ _
 rw [← Eu20.out] at Q5
 go_upto_region 6 with fail
 go_cut [8] from 32 to 35 (fun s wx => ∃ g, s = .pointer (some ⟨g, 0, none⟩) ∧ Hid (W5.heap.size ≤ g) ∧ Hid (wx.heap[g]? = some (.cells (num4A (mP (sqN 20 u20) u20)) 80 (0, 0))) ∧ Hid (Below W5.heap.size W5 wx))
 case first =>
  obtain ⟨c_u200, c_u201, c_u202, c_u203⟩ := c4_of Q5.out
  go_region_held3 (fun w' => C4 w' (g5) (u20))
   (first | exact c4_set (c4_alloc (c4_below (c4_of Q5.out) K5_1.out (lt_of_row Q5.out)) _) (by have h0 := lt_of_row Q5.out; have h1 := K5_0.out.size; have h2 := K5_1.out.size; have h9 := Z5.out; have n1 := N1.out; have n2 := N2.out; have n3 := N3.out; have n4 := N4.out; have n5 := N5.out; omega) | exact c4_set (c4_below (c4_of Q5.out) K5_1.out (lt_of_row Q5.out)) (by have h0 := lt_of_row Q5.out; have h1 := K5_0.out.size; have h2 := K5_1.out.size; have h9 := Z5.out; have n1 := N1.out; have n2 := N2.out; have n3 := N3.out; have n4 := N4.out; have n5 := N5.out; omega) | exact (c4_below (c4_of Q5.out) K5_1.out (lt_of_row Q5.out)) | exact c4_alloc (c4_below (c4_of Q5.out) K5_1.out (lt_of_row Q5.out)) _ | exact (c4_below (c4_of Q5.out) K5_0.out (lt_of_row Q5.out)) | exact c4_alloc (c4_below (c4_of Q5.out) K5_0.out (lt_of_row Q5.out)) _ | exact c4_of Q5.out | exact c4_alloc (w := W5.drew) (c4_of Q5.out) _ | go_keep)
   (first
    | (go_at_call 141; refine (feSquared u20 20 Hu20.out (by decide) _).mono ?_; rintro e V5_0 ⟨rfl, HB⟩; have K5_0 : Hid (Below W5.heap.size W5 V5_0) := (by first | exact hide (undrew HB) | exact hide (Below.trans (Below.alloc (Below.drew (Below.refl _ _)) (Nat.le_refl _) _) (HB.mono (by simp)))); (first | (have ZZ := hide (row_keep (heap_alloc_new _ (.cells zero4 80)) HB)) | (have ZZ := hide (row_keep (w := (W5.alloc (.cells zero4 80)).drew) (heap_alloc_new W5 (.cells zero4 80)) HB)) | (have ZZ := hide (row_keep ZZ.out HB)) | skip); clear HB)
    | (go_at_call 93; refine (feTimes (sqN 20 u20) u20 (sqN_lt 20 _ Hu20.out) Hu20.out _).mono ?_; rintro e V5_1 ⟨rfl, HB⟩; have K5_1 : Hid (Below W5.heap.size W5 V5_1) := (by first | exact hide (K5_0.out.trans (HB.mono K5_0.out.size)) | exact hide ((K5_0.out.alloc K5_0.out.size _).trans (HB.mono (by have := K5_0.out.size; simp; omega)))); (first | (have ZZ := hide (row_keep (heap_alloc_new _ (.cells zero4 80)) HB)) | (have ZZ := hide (row_keep (w := (W5.alloc (.cells zero4 80)).drew) (heap_alloc_new W5 (.cells zero4 80)) HB)) | (have ZZ := hide (row_keep ZZ.out HB)) | skip); clear HB; (first | (have hst := storeRow_run (P := Tryz.prog) (cs := num4A (mP (sqN 20 u20) u20)) ZZ.out rfl (num4A_all _)) | (have hst := storeRow_run (P := Tryz.prog) (w := V5_1.alloc (.cells zero4 80)) (cs := num4A (mP (sqN 20 u20) u20)) (heap_alloc_new _ _) rfl (num4A_all _))); have hs4 : (num4A (mP (sqN 20 u20) u20)).size = 4 := rfl))
  all_goals (
   clear c_u200 c_u201 c_u202 c_u203
   clear hst hs4
   go_wp2_with fail
   go_meet
   case rel => first | exact ⟨_, rfl, hide (by have h1 := K5_0.out.size; have h2 := K5_1.out.size; omega), hide (setRow_heap _ _ _ _ _ _ ZZ.out), hide (below_setRow K5_1.out (by have h1 := K5_0.out.size; have h2 := K5_1.out.size; omega) _)⟩ | exact ⟨_, rfl, hide (by have h1 := K5_0.out.size; have h2 := K5_1.out.size; omega), hide (setRow_heap _ _ _ _ _ _ (heap_alloc_new _ _)), hide (below_setRow (K5_1.out.alloc K5_1.out.size _) (by have h1 := K5_0.out.size; have h2 := K5_1.out.size; omega) _)⟩)
 case rest =>
 obtain ⟨g6, rfl, G6, Q6, X6⟩ := hcut
 obtain ⟨W6, hW6⟩ : ∃ W6, W6 = wc := ⟨_, rfl⟩
 subst hW6
 have BL6 : Hid (Below w.heap.size w W6) := BL5.out.trans (X6.out.mono BL5.out.size)
 have Z6 : Hid (w.heap.size + 1 < W6.heap.size) := by show _ < _; have := Z5.out; have := X6.out.size; omega
 replace R0 := hide (row_below R0.out X6.out (lt_of_row R0.out))
 replace Q1 := hide (row_below Q1.out X6.out (lt_of_row Q1.out))
 replace Q2 := hide (row_below Q2.out X6.out (lt_of_row Q2.out))
 replace Q3 := hide (row_below Q3.out X6.out (lt_of_row Q3.out))
 replace Q4 := hide (row_below Q4.out X6.out (lt_of_row Q4.out))
 replace Q5 := hide (row_below Q5.out X6.out (lt_of_row Q5.out))
 replace RZ := hide (row_below RZ.out X6.out Z5.out)
 have N6 : Hid (w.heap.size + 1 < g6) := by show _ < _; have := G6.out; have := Z5.out; omega
 clear X6 BL5 Z5 G6
 obtain ⟨u40, Eu40⟩ : ∃ u40, Hid (u40 = mP (sqN 20 u20) u20) := ⟨_, rfl⟩
 have Hu40 : Hid (u40 < P) := by rw [Eu40.out]; exact mP_lt _ _
 rw [← Eu40.out] at Q6
 go_upto_region 7 with fail
 go_cut [9] from 36 to 39 (fun s wx => ∃ g, s = .pointer (some ⟨g, 0, none⟩) ∧ Hid (W6.heap.size ≤ g) ∧ Hid (wx.heap[g]? = some (.cells (num4A (mP (sqN 10 u40) u10)) 80 (0, 0))) ∧ Hid (Below W6.heap.size W6 wx))
 case first =>
  obtain ⟨c_u400, c_u401, c_u402, c_u403⟩ := c4_of Q6.out
  obtain ⟨c_u100, c_u101, c_u102, c_u103⟩ := c4_of Q4.out
  go_region_held3 (fun w' => C4 w' (g6) (u40) ∧ C4 w' (g4) (u10))
   (first | exact ⟨c4_set (c4_alloc (c4_below (c4_of Q6.out) K6_1.out (lt_of_row Q6.out)) _) (by have h0 := lt_of_row Q6.out; have h1 := K6_0.out.size; have h2 := K6_1.out.size; have h9 := Z6.out; have n1 := N1.out; have n2 := N2.out; have n3 := N3.out; have n4 := N4.out; have n5 := N5.out; have n6 := N6.out; omega), c4_set (c4_alloc (c4_below (c4_of Q4.out) K6_1.out (lt_of_row Q4.out)) _) (by have h0 := lt_of_row Q4.out; have h1 := K6_0.out.size; have h2 := K6_1.out.size; have h9 := Z6.out; have n1 := N1.out; have n2 := N2.out; have n3 := N3.out; have n4 := N4.out; have n5 := N5.out; have n6 := N6.out; omega)⟩ | exact ⟨c4_set (c4_below (c4_of Q6.out) K6_1.out (lt_of_row Q6.out)) (by have h0 := lt_of_row Q6.out; have h1 := K6_0.out.size; have h2 := K6_1.out.size; have h9 := Z6.out; have n1 := N1.out; have n2 := N2.out; have n3 := N3.out; have n4 := N4.out; have n5 := N5.out; have n6 := N6.out; omega), c4_set (c4_below (c4_of Q4.out) K6_1.out (lt_of_row Q4.out)) (by have h0 := lt_of_row Q4.out; have h1 := K6_0.out.size; have h2 := K6_1.out.size; have h9 := Z6.out; have n1 := N1.out; have n2 := N2.out; have n3 := N3.out; have n4 := N4.out; have n5 := N5.out; have n6 := N6.out; omega)⟩ | exact ⟨(c4_below (c4_of Q6.out) K6_1.out (lt_of_row Q6.out)), (c4_below (c4_of Q4.out) K6_1.out (lt_of_row Q4.out))⟩ | exact ⟨c4_alloc (c4_below (c4_of Q6.out) K6_1.out (lt_of_row Q6.out)) _, c4_alloc (c4_below (c4_of Q4.out) K6_1.out (lt_of_row Q4.out)) _⟩ | exact ⟨(c4_below (c4_of Q6.out) K6_0.out (lt_of_row Q6.out)), (c4_below (c4_of Q4.out) K6_0.out (lt_of_row Q4.out))⟩ | exact ⟨c4_alloc (c4_below (c4_of Q6.out) K6_0.out (lt_of_row Q6.out)) _, c4_alloc (c4_below (c4_of Q4.out) K6_0.out (lt_of_row Q4.out)) _⟩ | exact ⟨c4_of Q6.out, c4_of Q4.out⟩ | exact ⟨c4_alloc (w := W6.drew) (c4_of Q6.out) _, c4_alloc (w := W6.drew) (c4_of Q4.out) _⟩ | go_keep)
   (first
    | (go_at_call 141; refine (feSquared u40 10 Hu40.out (by decide) _).mono ?_; rintro e V6_0 ⟨rfl, HB⟩; have K6_0 : Hid (Below W6.heap.size W6 V6_0) := (by first | exact hide (undrew HB) | exact hide (Below.trans (Below.alloc (Below.drew (Below.refl _ _)) (Nat.le_refl _) _) (HB.mono (by simp)))); (first | (have ZZ := hide (row_keep (heap_alloc_new _ (.cells zero4 80)) HB)) | (have ZZ := hide (row_keep (w := (W6.alloc (.cells zero4 80)).drew) (heap_alloc_new W6 (.cells zero4 80)) HB)) | (have ZZ := hide (row_keep ZZ.out HB)) | skip); clear HB)
    | (go_at_call 93; refine (feTimes (sqN 10 u40) u10 (sqN_lt 10 _ Hu40.out) Hu10.out _).mono ?_; rintro e V6_1 ⟨rfl, HB⟩; have K6_1 : Hid (Below W6.heap.size W6 V6_1) := (by first | exact hide (K6_0.out.trans (HB.mono K6_0.out.size)) | exact hide ((K6_0.out.alloc K6_0.out.size _).trans (HB.mono (by have := K6_0.out.size; simp; omega)))); (first | (have ZZ := hide (row_keep (heap_alloc_new _ (.cells zero4 80)) HB)) | (have ZZ := hide (row_keep (w := (W6.alloc (.cells zero4 80)).drew) (heap_alloc_new W6 (.cells zero4 80)) HB)) | (have ZZ := hide (row_keep ZZ.out HB)) | skip); clear HB; (first | (have hst := storeRow_run (P := Tryz.prog) (cs := num4A (mP (sqN 10 u40) u10)) ZZ.out rfl (num4A_all _)) | (have hst := storeRow_run (P := Tryz.prog) (w := V6_1.alloc (.cells zero4 80)) (cs := num4A (mP (sqN 10 u40) u10)) (heap_alloc_new _ _) rfl (num4A_all _))); have hs4 : (num4A (mP (sqN 10 u40) u10)).size = 4 := rfl))
  all_goals (
   clear c_u400 c_u401 c_u402 c_u403
   clear c_u100 c_u101 c_u102 c_u103
   clear hst hs4
   go_wp2_with fail
   go_meet
   case rel => first | exact ⟨_, rfl, hide (by have h1 := K6_0.out.size; have h2 := K6_1.out.size; omega), hide (setRow_heap _ _ _ _ _ _ ZZ.out), hide (below_setRow K6_1.out (by have h1 := K6_0.out.size; have h2 := K6_1.out.size; omega) _)⟩ | exact ⟨_, rfl, hide (by have h1 := K6_0.out.size; have h2 := K6_1.out.size; omega), hide (setRow_heap _ _ _ _ _ _ (heap_alloc_new _ _)), hide (below_setRow (K6_1.out.alloc K6_1.out.size _) (by have h1 := K6_0.out.size; have h2 := K6_1.out.size; omega) _)⟩)
 case rest =>
 obtain ⟨g7, rfl, G7, Q7, X7⟩ := hcut
 obtain ⟨W7, hW7⟩ : ∃ W7, W7 = wc := ⟨_, rfl⟩
 subst hW7
 have BL7 : Hid (Below w.heap.size w W7) := BL6.out.trans (X7.out.mono BL6.out.size)
 have Z7 : Hid (w.heap.size + 1 < W7.heap.size) := by show _ < _; have := Z6.out; have := X7.out.size; omega
 replace R0 := hide (row_below R0.out X7.out (lt_of_row R0.out))
 replace Q1 := hide (row_below Q1.out X7.out (lt_of_row Q1.out))
 replace Q2 := hide (row_below Q2.out X7.out (lt_of_row Q2.out))
 replace Q3 := hide (row_below Q3.out X7.out (lt_of_row Q3.out))
 replace Q4 := hide (row_below Q4.out X7.out (lt_of_row Q4.out))
 replace Q5 := hide (row_below Q5.out X7.out (lt_of_row Q5.out))
 replace Q6 := hide (row_below Q6.out X7.out (lt_of_row Q6.out))
 replace RZ := hide (row_below RZ.out X7.out Z6.out)
 have N7 : Hid (w.heap.size + 1 < g7) := by show _ < _; have := G7.out; have := Z6.out; omega
 clear X7 BL6 Z6 G7
 obtain ⟨u50, Eu50⟩ : ∃ u50, Hid (u50 = mP (sqN 10 u40) u10) := ⟨_, rfl⟩
 have Hu50 : Hid (u50 < P) := by rw [Eu50.out]; exact mP_lt _ _
 rw [← Eu50.out] at Q7
 go_upto_region 8 with fail
 go_cut [10] from 40 to 43 (fun s wx => ∃ g, s = .pointer (some ⟨g, 0, none⟩) ∧ Hid (W7.heap.size ≤ g) ∧ Hid (wx.heap[g]? = some (.cells (num4A (mP (sqN 50 u50) u50)) 80 (0, 0))) ∧ Hid (Below W7.heap.size W7 wx))
 case first =>
  obtain ⟨c_u500, c_u501, c_u502, c_u503⟩ := c4_of Q7.out
  go_region_held3 (fun w' => C4 w' (g7) (u50))
   (first | exact c4_set (c4_alloc (c4_below (c4_of Q7.out) K7_1.out (lt_of_row Q7.out)) _) (by have h0 := lt_of_row Q7.out; have h1 := K7_0.out.size; have h2 := K7_1.out.size; have h9 := Z7.out; have n1 := N1.out; have n2 := N2.out; have n3 := N3.out; have n4 := N4.out; have n5 := N5.out; have n6 := N6.out; have n7 := N7.out; omega) | exact c4_set (c4_below (c4_of Q7.out) K7_1.out (lt_of_row Q7.out)) (by have h0 := lt_of_row Q7.out; have h1 := K7_0.out.size; have h2 := K7_1.out.size; have h9 := Z7.out; have n1 := N1.out; have n2 := N2.out; have n3 := N3.out; have n4 := N4.out; have n5 := N5.out; have n6 := N6.out; have n7 := N7.out; omega) | exact (c4_below (c4_of Q7.out) K7_1.out (lt_of_row Q7.out)) | exact c4_alloc (c4_below (c4_of Q7.out) K7_1.out (lt_of_row Q7.out)) _ | exact (c4_below (c4_of Q7.out) K7_0.out (lt_of_row Q7.out)) | exact c4_alloc (c4_below (c4_of Q7.out) K7_0.out (lt_of_row Q7.out)) _ | exact c4_of Q7.out | exact c4_alloc (w := W7.drew) (c4_of Q7.out) _ | go_keep)
   (first
    | (go_at_call 141; refine (feSquared u50 50 Hu50.out (by decide) _).mono ?_; rintro e V7_0 ⟨rfl, HB⟩; have K7_0 : Hid (Below W7.heap.size W7 V7_0) := (by first | exact hide (undrew HB) | exact hide (Below.trans (Below.alloc (Below.drew (Below.refl _ _)) (Nat.le_refl _) _) (HB.mono (by simp)))); (first | (have ZZ := hide (row_keep (heap_alloc_new _ (.cells zero4 80)) HB)) | (have ZZ := hide (row_keep (w := (W7.alloc (.cells zero4 80)).drew) (heap_alloc_new W7 (.cells zero4 80)) HB)) | (have ZZ := hide (row_keep ZZ.out HB)) | skip); clear HB)
    | (go_at_call 93; refine (feTimes (sqN 50 u50) u50 (sqN_lt 50 _ Hu50.out) Hu50.out _).mono ?_; rintro e V7_1 ⟨rfl, HB⟩; have K7_1 : Hid (Below W7.heap.size W7 V7_1) := (by first | exact hide (K7_0.out.trans (HB.mono K7_0.out.size)) | exact hide ((K7_0.out.alloc K7_0.out.size _).trans (HB.mono (by have := K7_0.out.size; simp; omega)))); (first | (have ZZ := hide (row_keep (heap_alloc_new _ (.cells zero4 80)) HB)) | (have ZZ := hide (row_keep (w := (W7.alloc (.cells zero4 80)).drew) (heap_alloc_new W7 (.cells zero4 80)) HB)) | (have ZZ := hide (row_keep ZZ.out HB)) | skip); clear HB; (first | (have hst := storeRow_run (P := Tryz.prog) (cs := num4A (mP (sqN 50 u50) u50)) ZZ.out rfl (num4A_all _)) | (have hst := storeRow_run (P := Tryz.prog) (w := V7_1.alloc (.cells zero4 80)) (cs := num4A (mP (sqN 50 u50) u50)) (heap_alloc_new _ _) rfl (num4A_all _))); have hs4 : (num4A (mP (sqN 50 u50) u50)).size = 4 := rfl))
  all_goals (
   clear c_u500 c_u501 c_u502 c_u503
   clear hst hs4
   go_wp2_with fail
   go_meet
   case rel => first | exact ⟨_, rfl, hide (by have h1 := K7_0.out.size; have h2 := K7_1.out.size; omega), hide (setRow_heap _ _ _ _ _ _ ZZ.out), hide (below_setRow K7_1.out (by have h1 := K7_0.out.size; have h2 := K7_1.out.size; omega) _)⟩ | exact ⟨_, rfl, hide (by have h1 := K7_0.out.size; have h2 := K7_1.out.size; omega), hide (setRow_heap _ _ _ _ _ _ (heap_alloc_new _ _)), hide (below_setRow (K7_1.out.alloc K7_1.out.size _) (by have h1 := K7_0.out.size; have h2 := K7_1.out.size; omega) _)⟩)
 case rest =>
 obtain ⟨g8, rfl, G8, Q8, X8⟩ := hcut
 obtain ⟨W8, hW8⟩ : ∃ W8, W8 = wc := ⟨_, rfl⟩
 subst hW8
 have BL8 : Hid (Below w.heap.size w W8) := BL7.out.trans (X8.out.mono BL7.out.size)
 have Z8 : Hid (w.heap.size + 1 < W8.heap.size) := by show _ < _; have := Z7.out; have := X8.out.size; omega
 replace R0 := hide (row_below R0.out X8.out (lt_of_row R0.out))
 replace Q1 := hide (row_below Q1.out X8.out (lt_of_row Q1.out))
 replace Q2 := hide (row_below Q2.out X8.out (lt_of_row Q2.out))
 replace Q3 := hide (row_below Q3.out X8.out (lt_of_row Q3.out))
 replace Q4 := hide (row_below Q4.out X8.out (lt_of_row Q4.out))
 replace Q5 := hide (row_below Q5.out X8.out (lt_of_row Q5.out))
 replace Q6 := hide (row_below Q6.out X8.out (lt_of_row Q6.out))
 replace Q7 := hide (row_below Q7.out X8.out (lt_of_row Q7.out))
 replace RZ := hide (row_below RZ.out X8.out Z7.out)
 have N8 : Hid (w.heap.size + 1 < g8) := by show _ < _; have := G8.out; have := Z7.out; omega
 clear X8 BL7 Z7 G8
 obtain ⟨u100, Eu100⟩ : ∃ u100, Hid (u100 = mP (sqN 50 u50) u50) := ⟨_, rfl⟩
 have Hu100 : Hid (u100 < P) := by rw [Eu100.out]; exact mP_lt _ _
 rw [← Eu100.out] at Q8
 go_upto_region 9 with fail
 go_cut [11] from 44 to 47 (fun s wx => ∃ g, s = .pointer (some ⟨g, 0, none⟩) ∧ Hid (W8.heap.size ≤ g) ∧ Hid (wx.heap[g]? = some (.cells (num4A (mP (sqN 100 u100) u100)) 80 (0, 0))) ∧ Hid (Below W8.heap.size W8 wx))
 case first =>
  obtain ⟨c_u1000, c_u1001, c_u1002, c_u1003⟩ := c4_of Q8.out
  go_region_held3 (fun w' => C4 w' (g8) (u100))
   (first | exact c4_set (c4_alloc (c4_below (c4_of Q8.out) K8_1.out (lt_of_row Q8.out)) _) (by have h0 := lt_of_row Q8.out; have h1 := K8_0.out.size; have h2 := K8_1.out.size; have h9 := Z8.out; have n1 := N1.out; have n2 := N2.out; have n3 := N3.out; have n4 := N4.out; have n5 := N5.out; have n6 := N6.out; have n7 := N7.out; have n8 := N8.out; omega) | exact c4_set (c4_below (c4_of Q8.out) K8_1.out (lt_of_row Q8.out)) (by have h0 := lt_of_row Q8.out; have h1 := K8_0.out.size; have h2 := K8_1.out.size; have h9 := Z8.out; have n1 := N1.out; have n2 := N2.out; have n3 := N3.out; have n4 := N4.out; have n5 := N5.out; have n6 := N6.out; have n7 := N7.out; have n8 := N8.out; omega) | exact (c4_below (c4_of Q8.out) K8_1.out (lt_of_row Q8.out)) | exact c4_alloc (c4_below (c4_of Q8.out) K8_1.out (lt_of_row Q8.out)) _ | exact (c4_below (c4_of Q8.out) K8_0.out (lt_of_row Q8.out)) | exact c4_alloc (c4_below (c4_of Q8.out) K8_0.out (lt_of_row Q8.out)) _ | exact c4_of Q8.out | exact c4_alloc (w := W8.drew) (c4_of Q8.out) _ | go_keep)
   (first
    | (go_at_call 141; refine (feSquared u100 100 Hu100.out (by decide) _).mono ?_; rintro e V8_0 ⟨rfl, HB⟩; have K8_0 : Hid (Below W8.heap.size W8 V8_0) := (by first | exact hide (undrew HB) | exact hide (Below.trans (Below.alloc (Below.drew (Below.refl _ _)) (Nat.le_refl _) _) (HB.mono (by simp)))); (first | (have ZZ := hide (row_keep (heap_alloc_new _ (.cells zero4 80)) HB)) | (have ZZ := hide (row_keep (w := (W8.alloc (.cells zero4 80)).drew) (heap_alloc_new W8 (.cells zero4 80)) HB)) | (have ZZ := hide (row_keep ZZ.out HB)) | skip); clear HB)
    | (go_at_call 93; refine (feTimes (sqN 100 u100) u100 (sqN_lt 100 _ Hu100.out) Hu100.out _).mono ?_; rintro e V8_1 ⟨rfl, HB⟩; have K8_1 : Hid (Below W8.heap.size W8 V8_1) := (by first | exact hide (K8_0.out.trans (HB.mono K8_0.out.size)) | exact hide ((K8_0.out.alloc K8_0.out.size _).trans (HB.mono (by have := K8_0.out.size; simp; omega)))); (first | (have ZZ := hide (row_keep (heap_alloc_new _ (.cells zero4 80)) HB)) | (have ZZ := hide (row_keep (w := (W8.alloc (.cells zero4 80)).drew) (heap_alloc_new W8 (.cells zero4 80)) HB)) | (have ZZ := hide (row_keep ZZ.out HB)) | skip); clear HB; (first | (have hst := storeRow_run (P := Tryz.prog) (cs := num4A (mP (sqN 100 u100) u100)) ZZ.out rfl (num4A_all _)) | (have hst := storeRow_run (P := Tryz.prog) (w := V8_1.alloc (.cells zero4 80)) (cs := num4A (mP (sqN 100 u100) u100)) (heap_alloc_new _ _) rfl (num4A_all _))); have hs4 : (num4A (mP (sqN 100 u100) u100)).size = 4 := rfl))
  all_goals (
   clear c_u1000 c_u1001 c_u1002 c_u1003
   clear hst hs4
   go_wp2_with fail
   go_meet
   case rel => first | exact ⟨_, rfl, hide (by have h1 := K8_0.out.size; have h2 := K8_1.out.size; omega), hide (setRow_heap _ _ _ _ _ _ ZZ.out), hide (below_setRow K8_1.out (by have h1 := K8_0.out.size; have h2 := K8_1.out.size; omega) _)⟩ | exact ⟨_, rfl, hide (by have h1 := K8_0.out.size; have h2 := K8_1.out.size; omega), hide (setRow_heap _ _ _ _ _ _ (heap_alloc_new _ _)), hide (below_setRow (K8_1.out.alloc K8_1.out.size _) (by have h1 := K8_0.out.size; have h2 := K8_1.out.size; omega) _)⟩)
 case rest =>
 obtain ⟨g9, rfl, G9, Q9, X9⟩ := hcut
 obtain ⟨W9, hW9⟩ : ∃ W9, W9 = wc := ⟨_, rfl⟩
 subst hW9
 have BL9 : Hid (Below w.heap.size w W9) := BL8.out.trans (X9.out.mono BL8.out.size)
 have Z9 : Hid (w.heap.size + 1 < W9.heap.size) := by show _ < _; have := Z8.out; have := X9.out.size; omega
 replace R0 := hide (row_below R0.out X9.out (lt_of_row R0.out))
 replace Q1 := hide (row_below Q1.out X9.out (lt_of_row Q1.out))
 replace Q2 := hide (row_below Q2.out X9.out (lt_of_row Q2.out))
 replace Q3 := hide (row_below Q3.out X9.out (lt_of_row Q3.out))
 replace Q4 := hide (row_below Q4.out X9.out (lt_of_row Q4.out))
 replace Q5 := hide (row_below Q5.out X9.out (lt_of_row Q5.out))
 replace Q6 := hide (row_below Q6.out X9.out (lt_of_row Q6.out))
 replace Q7 := hide (row_below Q7.out X9.out (lt_of_row Q7.out))
 replace Q8 := hide (row_below Q8.out X9.out (lt_of_row Q8.out))
 replace RZ := hide (row_below RZ.out X9.out Z8.out)
 have N9 : Hid (w.heap.size + 1 < g9) := by show _ < _; have := G9.out; have := Z8.out; omega
 clear X9 BL8 Z8 G9
 obtain ⟨u200, Eu200⟩ : ∃ u200, Hid (u200 = mP (sqN 100 u100) u100) := ⟨_, rfl⟩
 have Hu200 : Hid (u200 < P) := by rw [Eu200.out]; exact mP_lt _ _
 rw [← Eu200.out] at Q9
 go_upto_region 10 with fail
 obtain ⟨c_u2000, c_u2001, c_u2002, c_u2003⟩ := c4_of Q9.out
 obtain ⟨c_u500, c_u501, c_u502, c_u503⟩ := c4_of Q7.out
 go_region_held3 (fun w' => C4 w' (g9) (u200) ∧ C4 w' (g7) (u50))
  (first | exact ⟨c4_set (c4_below (c4_of Q9.out) K9_1.out (lt_of_row Q9.out)) (by have h0 := lt_of_row Q9.out; have h1 := K9_0.out.size; have h2 := K9_1.out.size; have h9 := Z9.out; have n1 := N1.out; have n2 := N2.out; have n3 := N3.out; have n4 := N4.out; have n5 := N5.out; have n6 := N6.out; have n7 := N7.out; have n8 := N8.out; have n9 := N9.out; omega), c4_set (c4_below (c4_of Q7.out) K9_1.out (lt_of_row Q7.out)) (by have h0 := lt_of_row Q7.out; have h1 := K9_0.out.size; have h2 := K9_1.out.size; have h9 := Z9.out; have n1 := N1.out; have n2 := N2.out; have n3 := N3.out; have n4 := N4.out; have n5 := N5.out; have n6 := N6.out; have n7 := N7.out; have n8 := N8.out; have n9 := N9.out; omega)⟩ | exact ⟨(c4_below (c4_of Q9.out) K9_1.out (lt_of_row Q9.out)), (c4_below (c4_of Q7.out) K9_1.out (lt_of_row Q7.out))⟩ | exact ⟨(c4_below (c4_of Q9.out) K9_0.out (lt_of_row Q9.out)), (c4_below (c4_of Q7.out) K9_0.out (lt_of_row Q7.out))⟩ | exact ⟨c4_of Q9.out, c4_of Q7.out⟩ | go_keep)
  (first
   | (go_at_call 141; refine (feSquared u200 50 Hu200.out (by decide) _).mono ?_; rintro e V9_0 ⟨rfl, HB⟩; have K9_0 : Hid (Below W9.heap.size W9 V9_0) := (by first | exact hide (undrew HB) | exact hide (Below.trans (Below.alloc (Below.drew (Below.refl _ _)) (Nat.le_refl _) _) (HB.mono (by simp)))); clear HB)
   | (go_at_call 93; refine (feTimes (sqN 50 u200) u50 (sqN_lt 50 _ Hu200.out) Hu50.out _).mono ?_; rintro e V9_1 ⟨rfl, HB⟩; have K9_1 : Hid (Below W9.heap.size W9 V9_1) := (by first | exact hide (K9_0.out.trans (HB.mono K9_0.out.size)) | exact hide ((K9_0.out.alloc K9_0.out.size _).trans (HB.mono (by have := K9_0.out.size; simp; omega)))); clear HB; have hst := storeRow_run (P := Tryz.prog) (cs := num4A (mP (sqN 50 u200) u50)) ((K9_1.out.block _ Z9.out).trans RZ.out) rfl (num4A_all _); have hs4 : (num4A (mP (sqN 50 u200) u50)).size = 4 := rfl))
 clear c_u2000 c_u2001 c_u2002 c_u2003
 clear c_u500 c_u501 c_u502 c_u503
 clear hst hs4
 go_wp2_with fail
 refine bodyPost_ret (v := fe (mP (sqN 50 u200) u50)) (results_cell_row Tryz.results142 _ _ (w.heap.size + 1) 80 (num4A (mP (sqN 50 u200) u50)) (0, 0) _ (by rfl) (setRow_heap _ _ _ _ _ _ ((K9_1.out.block _ Z9.out).trans RZ.out)) under33 rfl (feSize _)) rfl ⟨by rw [Eu200.out, Eu100.out, Eu50.out, Eu40.out, Eu20.out, Eu10.out, Eu5.out, Eu4.out, Eu2.out]; rfl, below_setRow (BL9.out.trans (K9_1.out.mono BL9.out.size)) (by omega) _⟩
def rpN (a : Nat) : Nat := mP (sqN 2 (lgN a)) a
theorem rpN_lt (a : Nat) : rpN a < P := mP_lt _ _
def invN (a : Nat) : Nat := mP (sqN 5 (lgN a)) (mP (mP a (sqN 1 a)) (sqN 3 a))
theorem invN_lt (a : Nat) : invN a < P := mP_lt _ _
set_option maxRecDepth 100000 in
set_option maxHeartbeats 2000000 in
theorem feRootPower (a : Nat) (ha : a < P) (w : World) :
  Calls Tryz.prog 171 #[fe a] w fun e w' => e = .returned (fe (rpN a)) ∧ Below w.heap.size w w' := by
 have Ha := hide ha
 clear ha
 go_enter Tryz.func171, Tryz.ntmps171
 go_wp2_with fail
 obtain ⟨W0, hW0⟩ : ∃ W0, W0 = ((w.alloc (.cells (num4A a) 80)).alloc (.cells zero4 80)) := ⟨_, rfl⟩
 rw [← hW0]
 have R0 : Hid (W0.heap[w.heap.size]? = some (.cells (num4A a) 80 (0, 0))) := by rw [hW0]; exact at2_0 _ _ _
 have RZ : Hid (W0.heap[w.heap.size + 1]? = some (.cells zero4 80 (0, 0))) := by rw [hW0]; exact at2_1 _ _ _
 have BL0 : Hid (Below w.heap.size w W0) := by rw [hW0]; show Below _ _ _; go_grown
 have Z0 : Hid (w.heap.size + 1 < W0.heap.size) := lt_of_row RZ.out
 clear hW0
 go_upto_region 1 with fail
 obtain ⟨c_p00, c_p01, c_p02, c_p03⟩ := c4_of R0.out
 go_region_held3 (fun w' => C4 w' (w.heap.size) (a))
  (first | exact c4_set (c4_below (c4_of R0.out) K0_2.out (lt_of_row R0.out)) (by have h0 := lt_of_row R0.out; have h1 := K0_0.out.size; have h2 := K0_1.out.size; have h3 := K0_2.out.size; have h9 := Z0.out; omega) | exact (c4_below (c4_of R0.out) K0_2.out (lt_of_row R0.out)) | exact (c4_below (c4_of R0.out) K0_1.out (lt_of_row R0.out)) | exact (c4_below (c4_of R0.out) K0_0.out (lt_of_row R0.out)) | exact c4_of R0.out | go_keep)
  (first
   | (go_at_call 142; (fail_if_success (have zz := K0_0)); refine (feLong a Ha.out _).mono ?_; rintro e V0_0 ⟨rfl, HB⟩; have K0_0 : Hid (Below W0.heap.size W0 V0_0) := (by first | exact hide (undrew HB) | exact hide (Below.trans (Below.alloc (Below.drew (Below.refl _ _)) (Nat.le_refl _) _) (HB.mono (by simp)))); clear HB)
   | (go_at_call 141; (fail_if_success (have zz := K0_1)); (have zz := K0_0; clear zz); refine (feSquared (lgN a) 2 (lgN_lt _) (by decide) _).mono ?_; rintro e V0_1 ⟨rfl, HB⟩; have K0_1 : Hid (Below W0.heap.size W0 V0_1) := (by first | exact hide (K0_0.out.trans (HB.mono K0_0.out.size)) | exact hide ((K0_0.out.alloc K0_0.out.size _).trans (HB.mono (by have := K0_0.out.size; simp; omega)))); clear HB)
   | (go_at_call 93; (fail_if_success (have zz := K0_2)); (have zz := K0_1; clear zz); refine (feTimes (sqN 2 (lgN a)) a (sqN_lt 2 _ (lgN_lt _)) Ha.out _).mono ?_; rintro e V0_2 ⟨rfl, HB⟩; have K0_2 : Hid (Below W0.heap.size W0 V0_2) := (by first | exact hide (K0_1.out.trans (HB.mono K0_1.out.size)) | exact hide ((K0_1.out.alloc K0_1.out.size _).trans (HB.mono (by have := K0_1.out.size; simp; omega)))); clear HB; have hst := storeRow_run (P := Tryz.prog) (cs := num4A (mP (sqN 2 (lgN a)) a)) ((K0_2.out.block _ Z0.out).trans RZ.out) rfl (num4A_all _); have hs4 : (num4A (mP (sqN 2 (lgN a)) a)).size = 4 := rfl))
 clear c_p00 c_p01 c_p02 c_p03
 clear hst hs4
 go_wp2_with fail
 refine bodyPost_ret (v := fe (mP (sqN 2 (lgN a)) a)) (results_cell_row Tryz.results171 _ _ (w.heap.size + 1) 80 (num4A (mP (sqN 2 (lgN a)) a)) (0, 0) _ (by rfl) (setRow_heap _ _ _ _ _ _ ((K0_2.out.block _ Z0.out).trans RZ.out)) under33 rfl (feSize _)) rfl ⟨rfl, below_setRow (BL0.out.trans (K0_2.out.mono BL0.out.size)) (by omega) _⟩
set_option maxRecDepth 100000 in
set_option maxHeartbeats 2000000 in
theorem feInverse (a : Nat) (ha : a < P) (w : World) :
  Calls Tryz.prog 92 #[fe a] w fun e w' => e = .returned (fe (invN a)) ∧ Below w.heap.size w w' := by
 have Ha := hide ha
 clear ha
 go_enter Tryz.func92, Tryz.ntmps92
 go_wp2_with fail
 obtain ⟨W0, hW0⟩ : ∃ W0, W0 = ((w.alloc (.cells (num4A a) 80)).alloc (.cells zero4 80)) := ⟨_, rfl⟩
 rw [← hW0]
 have R0 : Hid (W0.heap[w.heap.size]? = some (.cells (num4A a) 80 (0, 0))) := by rw [hW0]; exact at2_0 _ _ _
 have RZ : Hid (W0.heap[w.heap.size + 1]? = some (.cells zero4 80 (0, 0))) := by rw [hW0]; exact at2_1 _ _ _
 have BL0 : Hid (Below w.heap.size w W0) := by rw [hW0]; show Below _ _ _; go_grown
 have Z0 : Hid (w.heap.size + 1 < W0.heap.size) := lt_of_row RZ.out
 clear hW0
 go_upto_region 1 with fail
 go_cut [3] from 4 to 10 (fun s wx => ∃ g, s = .pointer (some ⟨g, 0, none⟩) ∧ Hid (W0.heap.size ≤ g) ∧ Hid (wx.heap[g]? = some (.cells (num4A (mP (mP a (sqN 1 a)) (sqN 3 a))) 80 (0, 0))) ∧ Hid (Below W0.heap.size W0 wx))
 case first =>
  obtain ⟨c_p00, c_p01, c_p02, c_p03⟩ := c4_of R0.out
  go_region_held3 (fun w' => C4 w' (w.heap.size) (a))
   (first | exact c4_set (c4_alloc (c4_below (c4_of R0.out) K0_3.out (lt_of_row R0.out)) _) (by have h0 := lt_of_row R0.out; have h1 := K0_0.out.size; have h2 := K0_1.out.size; have h3 := K0_2.out.size; have h4 := K0_3.out.size; have h9 := Z0.out; omega) | exact c4_set (c4_below (c4_of R0.out) K0_3.out (lt_of_row R0.out)) (by have h0 := lt_of_row R0.out; have h1 := K0_0.out.size; have h2 := K0_1.out.size; have h3 := K0_2.out.size; have h4 := K0_3.out.size; have h9 := Z0.out; omega) | exact (c4_below (c4_of R0.out) K0_3.out (lt_of_row R0.out)) | exact c4_alloc (c4_below (c4_of R0.out) K0_3.out (lt_of_row R0.out)) _ | exact (c4_below (c4_of R0.out) K0_2.out (lt_of_row R0.out)) | exact c4_alloc (c4_below (c4_of R0.out) K0_2.out (lt_of_row R0.out)) _ | exact (c4_below (c4_of R0.out) K0_1.out (lt_of_row R0.out)) | exact c4_alloc (c4_below (c4_of R0.out) K0_1.out (lt_of_row R0.out)) _ | exact (c4_below (c4_of R0.out) K0_0.out (lt_of_row R0.out)) | exact c4_alloc (c4_below (c4_of R0.out) K0_0.out (lt_of_row R0.out)) _ | exact c4_of R0.out | exact c4_alloc (w := W0.drew) (c4_of R0.out) _ | go_keep)
   (first
    | (go_at_call 141; (fail_if_success (have zz := K0_0)); refine (feSquared a 1 Ha.out (by decide) _).mono ?_; rintro e V0_0 ⟨rfl, HB⟩; have K0_0 : Hid (Below W0.heap.size W0 V0_0) := (by first | exact hide (undrew HB) | exact hide (Below.trans (Below.alloc (Below.drew (Below.refl _ _)) (Nat.le_refl _) _) (HB.mono (by simp)))); (first | (have ZZ := hide (row_keep (heap_alloc_new _ (.cells zero4 80)) HB)) | (have ZZ := hide (row_keep (w := (W0.alloc (.cells zero4 80)).drew) (heap_alloc_new W0 (.cells zero4 80)) HB)) | (have ZZ := hide (row_keep ZZ.out HB)) | skip); clear HB)
    | (go_at_call 93; (fail_if_success (have zz := K0_1)); (have zz := K0_0; clear zz); refine (feTimes a (sqN 1 a) Ha.out (sqN_lt 1 _ Ha.out) _).mono ?_; rintro e V0_1 ⟨rfl, HB⟩; have K0_1 : Hid (Below W0.heap.size W0 V0_1) := (by first | exact hide (K0_0.out.trans (HB.mono K0_0.out.size)) | exact hide ((K0_0.out.alloc K0_0.out.size _).trans (HB.mono (by have := K0_0.out.size; simp; omega)))); (first | (have ZZ := hide (row_keep (heap_alloc_new _ (.cells zero4 80)) HB)) | (have ZZ := hide (row_keep (w := (W0.alloc (.cells zero4 80)).drew) (heap_alloc_new W0 (.cells zero4 80)) HB)) | (have ZZ := hide (row_keep ZZ.out HB)) | skip); clear HB)
    | (go_at_call 141; (fail_if_success (have zz := K0_2)); (have zz := K0_1; clear zz); refine (feSquared a 3 Ha.out (by decide) _).mono ?_; rintro e V0_2 ⟨rfl, HB⟩; have K0_2 : Hid (Below W0.heap.size W0 V0_2) := (by first | exact hide (K0_1.out.trans (HB.mono K0_1.out.size)) | exact hide ((K0_1.out.alloc K0_1.out.size _).trans (HB.mono (by have := K0_1.out.size; simp; omega)))); (first | (have ZZ := hide (row_keep (heap_alloc_new _ (.cells zero4 80)) HB)) | (have ZZ := hide (row_keep (w := (W0.alloc (.cells zero4 80)).drew) (heap_alloc_new W0 (.cells zero4 80)) HB)) | (have ZZ := hide (row_keep ZZ.out HB)) | skip); clear HB)
    | (go_at_call 93; (fail_if_success (have zz := K0_3)); (have zz := K0_2; clear zz); refine (feTimes (mP a (sqN 1 a)) (sqN 3 a) (mP_lt _ _) (sqN_lt 3 _ Ha.out) _).mono ?_; rintro e V0_3 ⟨rfl, HB⟩; have K0_3 : Hid (Below W0.heap.size W0 V0_3) := (by first | exact hide (K0_2.out.trans (HB.mono K0_2.out.size)) | exact hide ((K0_2.out.alloc K0_2.out.size _).trans (HB.mono (by have := K0_2.out.size; simp; omega)))); (first | (have ZZ := hide (row_keep (heap_alloc_new _ (.cells zero4 80)) HB)) | (have ZZ := hide (row_keep (w := (W0.alloc (.cells zero4 80)).drew) (heap_alloc_new W0 (.cells zero4 80)) HB)) | (have ZZ := hide (row_keep ZZ.out HB)) | skip); clear HB; (first | (have hst := storeRow_run (P := Tryz.prog) (cs := num4A (mP (mP a (sqN 1 a)) (sqN 3 a))) ZZ.out rfl (num4A_all _)) | (have hst := storeRow_run (P := Tryz.prog) (w := V0_3.alloc (.cells zero4 80)) (cs := num4A (mP (mP a (sqN 1 a)) (sqN 3 a))) (heap_alloc_new _ _) rfl (num4A_all _))); have hs4 : (num4A (mP (mP a (sqN 1 a)) (sqN 3 a))).size = 4 := rfl))
  all_goals (
   clear c_p00 c_p01 c_p02 c_p03
   clear hst hs4
   go_wp2_with fail
   go_meet
   case rel => first | exact ⟨_, rfl, hide (by have h1 := K0_0.out.size; have h2 := K0_1.out.size; have h3 := K0_2.out.size; have h4 := K0_3.out.size; omega), hide (setRow_heap _ _ _ _ _ _ ZZ.out), hide (below_setRow K0_3.out (by have h1 := K0_0.out.size; have h2 := K0_1.out.size; have h3 := K0_2.out.size; have h4 := K0_3.out.size; omega) _)⟩ | exact ⟨_, rfl, hide (by have h1 := K0_0.out.size; have h2 := K0_1.out.size; have h3 := K0_2.out.size; have h4 := K0_3.out.size; omega), hide (setRow_heap _ _ _ _ _ _ (heap_alloc_new _ _)), hide (below_setRow (K0_3.out.alloc K0_3.out.size _) (by have h1 := K0_0.out.size; have h2 := K0_1.out.size; have h3 := K0_2.out.size; have h4 := K0_3.out.size; omega) _)⟩)
 case rest =>
 obtain ⟨g1, rfl, G1, Q1, X1⟩ := hcut
 obtain ⟨W1, hW1⟩ : ∃ W1, W1 = wc := ⟨_, rfl⟩
 subst hW1
 have BL1 : Hid (Below w.heap.size w W1) := BL0.out.trans (X1.out.mono BL0.out.size)
 have Z1 : Hid (w.heap.size + 1 < W1.heap.size) := by show _ < _; have := Z0.out; have := X1.out.size; omega
 replace R0 := hide (row_below R0.out X1.out (lt_of_row R0.out))
 replace RZ := hide (row_below RZ.out X1.out Z0.out)
 have N1 : Hid (w.heap.size + 1 < g1) := by show _ < _; have := G1.out; have := Z0.out; omega
 clear X1 BL0 Z0 G1
 go_upto_region 2 with fail
 obtain ⟨c_p00, c_p01, c_p02, c_p03⟩ := c4_of R0.out
 obtain ⟨c_el0, c_el1, c_el2, c_el3⟩ := c4_of Q1.out
 go_region_held3 (fun w' => C4 w' (w.heap.size) (a) ∧ C4 w' (g1) (mP (mP a (sqN 1 a)) (sqN 3 a)))
  (first | exact ⟨c4_set (c4_below (c4_of R0.out) K1_2.out (lt_of_row R0.out)) (by have h0 := lt_of_row R0.out; have h1 := K1_0.out.size; have h2 := K1_1.out.size; have h3 := K1_2.out.size; have h9 := Z1.out; have n1 := N1.out; omega), c4_set (c4_below (c4_of Q1.out) K1_2.out (lt_of_row Q1.out)) (by have h0 := lt_of_row Q1.out; have h1 := K1_0.out.size; have h2 := K1_1.out.size; have h3 := K1_2.out.size; have h9 := Z1.out; have n1 := N1.out; omega)⟩ | exact ⟨(c4_below (c4_of R0.out) K1_2.out (lt_of_row R0.out)), (c4_below (c4_of Q1.out) K1_2.out (lt_of_row Q1.out))⟩ | exact ⟨(c4_below (c4_of R0.out) K1_1.out (lt_of_row R0.out)), (c4_below (c4_of Q1.out) K1_1.out (lt_of_row Q1.out))⟩ | exact ⟨(c4_below (c4_of R0.out) K1_0.out (lt_of_row R0.out)), (c4_below (c4_of Q1.out) K1_0.out (lt_of_row Q1.out))⟩ | exact ⟨c4_of R0.out, c4_of Q1.out⟩ | go_keep)
  (first
   | (go_at_call 142; (fail_if_success (have zz := K1_0)); refine (feLong a Ha.out _).mono ?_; rintro e V1_0 ⟨rfl, HB⟩; have K1_0 : Hid (Below W1.heap.size W1 V1_0) := (by first | exact hide (undrew HB) | exact hide (Below.trans (Below.alloc (Below.drew (Below.refl _ _)) (Nat.le_refl _) _) (HB.mono (by simp)))); clear HB)
   | (go_at_call 141; (fail_if_success (have zz := K1_1)); (have zz := K1_0; clear zz); refine (feSquared (lgN a) 5 (lgN_lt _) (by decide) _).mono ?_; rintro e V1_1 ⟨rfl, HB⟩; have K1_1 : Hid (Below W1.heap.size W1 V1_1) := (by first | exact hide (K1_0.out.trans (HB.mono K1_0.out.size)) | exact hide ((K1_0.out.alloc K1_0.out.size _).trans (HB.mono (by have := K1_0.out.size; simp; omega)))); clear HB)
   | (go_at_call 93; (fail_if_success (have zz := K1_2)); (have zz := K1_1; clear zz); refine (feTimes (sqN 5 (lgN a)) (mP (mP a (sqN 1 a)) (sqN 3 a)) (sqN_lt 5 _ (lgN_lt _)) (mP_lt _ _) _).mono ?_; rintro e V1_2 ⟨rfl, HB⟩; have K1_2 : Hid (Below W1.heap.size W1 V1_2) := (by first | exact hide (K1_1.out.trans (HB.mono K1_1.out.size)) | exact hide ((K1_1.out.alloc K1_1.out.size _).trans (HB.mono (by have := K1_1.out.size; simp; omega)))); clear HB; have hst := storeRow_run (P := Tryz.prog) (cs := num4A (mP (sqN 5 (lgN a)) (mP (mP a (sqN 1 a)) (sqN 3 a)))) ((K1_2.out.block _ Z1.out).trans RZ.out) rfl (num4A_all _); have hs4 : (num4A (mP (sqN 5 (lgN a)) (mP (mP a (sqN 1 a)) (sqN 3 a)))).size = 4 := rfl))
 clear c_p00 c_p01 c_p02 c_p03
 clear c_el0 c_el1 c_el2 c_el3
 clear hst hs4
 go_wp2_with fail
 refine bodyPost_ret (v := fe (mP (sqN 5 (lgN a)) (mP (mP a (sqN 1 a)) (sqN 3 a)))) (results_cell_row Tryz.results92 _ _ (w.heap.size + 1) 80 (num4A (mP (sqN 5 (lgN a)) (mP (mP a (sqN 1 a)) (sqN 3 a)))) (0, 0) _ (by rfl) (setRow_heap _ _ _ _ _ _ ((K1_2.out.block _ Z1.out).trans RZ.out)) under33 rfl (feSize _)) rfl ⟨rfl, below_setRow (BL1.out.trans (K1_2.out.mono BL1.out.size)) (by omega) _⟩
theorem sizeOf64 : (Tryz.prog.info? 59).map (·.size) = some 1 := by kernel_rfl
theorem under64' : Tryz.prog.underlying 59 = some (.int .u64) := by kernel_rfl
theorem part64 (xs : Array Value) (i : Nat) (x : Int) (h : xs[i]? = some (.int .u64 x)) (w : World) : (part 59 xs i).run Tryz.prog w = .ok (.int .u64 x) w := by
 cases hq : Tryz.prog.info? 59 with
 | none => have := sizeOf64; rw [hq] at this; cases this
 | some inf =>
  have hi : inf.size = 1 := by have := sizeOf64; rw [hq] at this; simpa using this
  simp [part, sizeOf, typeInfo, hq, hi, h]
theorem eqArr4 (a0 a1 a2 a3 b0 b1 b2 b3 : Nat) (w : World) :
  (Op.equalIn 10000 80 (.agg #[nv a0, nv a1, nv a2, nv a3]) (.agg #[nv b0, nv b1, nv b2, nv b3])).run Tryz.prog w = .ok (V a0 == V b0 && (V a1 == V b1 && (V a2 == V b2 && V a3 == V b3))) w := by
 cases hq : Tryz.prog.info? 59 with
 | none => have := sizeOf64; rw [hq] at this; cases this
 | some inf =>
  have hi : inf.size = 1 := by have := sizeOf64; rw [hq] at this; simpa using this
  rw [show (10000 : Nat) = 9998 + 1 + 1 from rfl]
  unfold Op.equalIn
  simp only [Sem.run_bind, run_underlying under33, Result.andThen_ok]
  simp [sizeOf, typeInfo, hq, hi, Std.Legacy.Range.forIn_eq_forIn_range']
  have p0 := part64 #[nv a0, nv a1, nv a2, nv a3] 0 (V a0) rfl w
  have p1 := part64 #[nv a0, nv a1, nv a2, nv a3] 1 (V a1) rfl w
  have p2 := part64 #[nv a0, nv a1, nv a2, nv a3] 2 (V a2) rfl w
  have p3 := part64 #[nv a0, nv a1, nv a2, nv a3] 3 (V a3) rfl w
  have q0 := part64 #[nv b0, nv b1, nv b2, nv b3] 0 (V b0) rfl w
  have q1 := part64 #[nv b0, nv b1, nv b2, nv b3] 1 (V b1) rfl w
  have q2 := part64 #[nv b0, nv b1, nv b2, nv b3] 2 (V b2) rfl w
  have q3 := part64 #[nv b0, nv b1, nv b2, nv b3] 3 (V b3) rfl w
  have e := fun x y : Int => run_equalIn_int (P := Tryz.prog) w 9998 59 .u64 .u64 x y under64'
  generalize V a0 = x0 at *
  generalize V a1 = x1 at *
  generalize V a2 = x2 at *
  generalize V a3 = x3 at *
  generalize V b0 = y0 at *
  generalize V b1 = y1 at *
  generalize V b2 = y2 at *
  generalize V b3 = y3 at *
  by_cases h0 : x0 = y0 <;> by_cases h1 : x1 = y1 <;> by_cases h2 : x2 = y2 <;> by_cases h3 : x3 = y3 <;>
   simp [List.range', List.forIn_cons, p0, p1, p2, p3, q0, q1, q2, q3, e, h0, h1, h2, h3]
theorem wd_inj {a b : Nat} (ha : a < P) (hb : b < P) (h0 : wd a 0 = wd b 0) (h1 : wd a 1 = wd b 1) (h2 : wd a 2 = wd b 2) (h3 : wd a 3 = wd b 3) : a = b := by
 have la : a < 57896044618658097711785492504343953926634992332820282019728792003956564819949 := ha
 have lb : b < 57896044618658097711785492504343953926634992332820282019728792003956564819949 := hb
 unfold wd at *
 simp only [Nat.reducePow, Nat.pow_zero, Nat.div_one] at *
 omega
theorem feEq (a b : Nat) (ha : a < P) (hb : b < P) (w : World) :
  (Op.equalIn 10000 80 (.agg #[nv (wd a 0), nv (wd a 1), nv (wd a 2), nv (wd a 3)]) (.agg #[nv (wd b 0), nv (wd b 1), nv (wd b 2), nv (wd b 3)])).run Tryz.prog w = .ok (decide (a = b)) w := by
 rw [eqArr4]
 congr 1
 have vi : ∀ x y : Nat, (V x == V y) = decide (x = y) := by
  intro x y; unfold V
  by_cases h : x = y
  · subst h; simp
  · simp [h]; omega
 simp only [vi]
 by_cases h : a = b
 · subst h; simp
 ·
  simp only [h, decide_false]
  by_cases h0 : wd a 0 = wd b 0 <;> by_cases h1 : wd a 1 = wd b 1 <;> by_cases h2 : wd a 2 = wd b 2 <;> by_cases h3 : wd a 3 = wd b 3 <;> simp [h0, h1, h2, h3]
  exact h (wd_inj ha hb h0 h1 h2 h3)
theorem feEq' (a b : Nat) (ha : a < P) (hb : b < P) (w : World) : (Op.equalIn 10000 80 (.agg #[nv (wd a 0), nv (wd a 1), nv (wd a 2), nv (wd a 3)]) (fe b)).run Tryz.prog w = .ok (decide (a = b)) w := feEq a b ha hb w
theorem results_cell_tmp_row {P : Program} {fn : Func} {p u : Tmp} {ty : TypeId} (h : fn.results = #[.cell p ty, .tmp u]) (tmps : Array Value) (w : World) (g : Nat) (t : TypeId) (cs : Array Value) (fr : Nat × Nat) (d : TypeDesc)
  (hp : tmps.getD p undef = .pointer (some ⟨g, 0, none⟩)) (hg : w.heap[g]? = some (.cells cs t fr))
  (hu : P.underlying ty = some d) (hd : (match d with | .struct _ | .array _ _ => true | _ => false) = true) (hi : (P.info? ty).map (·.size) = some cs.size) :
  (results fn tmps).run P w = .ok (.tuple #[.agg cs, tmps.getD u undef]) w := by
 rw [results_cell_tmp h, hp]
 simp [asAddr, run_loadVar_row w g t ty cs fr d hg hu hd hi]
theorem num4A_zero : num4A 0 = zero4 := by unfold num4A wd; rfl
theorem zero4_all : zero4.all (·.oneCell') = true := w4_cell 0 0 0 0
theorem feMinus0 (b : Nat) (hb : b < P) (w : World) :
  Calls Tryz.prog 119 #[.agg zero4, .agg #[nv (wd b 0), nv (wd b 1), nv (wd b 2), nv (wd b 3)]] w fun e w' => e = .returned (fe (sP 0 b)) ∧ Below w.heap.size w w' := by
 have := feMinus 0 b P_pos hb w
 unfold fe at this
 rw [num4A_zero] at this
 exact this
end Go.Proofs.YtccgfabojbjmjaaGreatDoor
