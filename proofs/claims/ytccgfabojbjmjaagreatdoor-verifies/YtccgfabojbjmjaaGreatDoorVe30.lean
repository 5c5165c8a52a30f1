import Derived.Test.YtccgfabojbjmjaaGreatDoorVe19
namespace Go.Proofs.YtccgfabojbjmjaaGreatDoor
open Go.RowKit
abbrev oRefPlus5 : Oper := ⟨some 11, .alloc 95, 0, "point.go:14", #[], none⟩
abbrev oRefPlus6 : Oper := ⟨none, .store 95 (.tmp 11) (.tmp 37), 0, "point.go:14", #[zeD 5, zeD 4, zeC 4, zeP 0, zeP 1, zeP 2, zeP 3, zeP 4, zeP 5], none⟩
abbrev oRefPlus18 : Oper := ⟨some 14, .alloc 95, 0, "point.go:17", #[], none⟩
abbrev oRefPlus19 : Oper := ⟨none, .store 95 (.tmp 14) (.tmp 54), 0, "point.go:17", #[zeD 11, zeD 10, zeC 10, zeP 0, zeP 1, zeP 2, zeP 3, zeP 4, zeP 5, zeP 6, zeP 7, zeP 8, zeP 9, zeP 10, zeP 11], none⟩
theorem at4_0 (w : World) (A B C D : Obj) : ((((w.alloc A).alloc B).alloc C).alloc D).heap[w.heap.size]? = some A := by
 rw [heap_alloc_old _ _ (by simp <;> omega)]; exact heap3_0 _ _ _ _
theorem at4_1 (w : World) (A B C D : Obj) : ((((w.alloc A).alloc B).alloc C).alloc D).heap[w.heap.size + 1]? = some B := by
 rw [heap_alloc_old _ _ (by simp <;> omega)]; exact heap3_1 _ _ _ _
theorem at4_2 (w : World) (A B C D : Obj) : ((((w.alloc A).alloc B).alloc C).alloc D).heap[w.heap.size + 2]? = some C := by
 rw [heap_alloc_old _ _ (by simp)]; exact heap3_2 _ _ _ _
theorem at4_3 (w : World) (A B C D : Obj) : ((((w.alloc A).alloc B).alloc C).alloc D).heap[w.heap.size + 3]? = some D := by
 have e := heap_alloc_new (((w.alloc A).alloc B).alloc C) D
 simpa using e
def plusD (d : Nat) (p q : Q3) : Q3 :=
 ⟨mP (mP p.z q.z) (mP (sP (mP (mP p.z q.z) (mP p.z q.z)) (mP d (mP (mP p.x q.x) (mP p.y q.y)))) (aP (mP p.x q.y) (mP q.x p.y))),
  mP (mP p.z q.z) (mP (aP (mP (mP p.z q.z) (mP p.z q.z)) (mP d (mP (mP p.x q.x) (mP p.y q.y)))) (aP (mP p.y q.y) (mP p.x q.x))),
  mP (sP (mP (mP p.z q.z) (mP p.z q.z)) (mP d (mP (mP p.x q.x) (mP p.y q.y)))) (aP (mP (mP p.z q.z) (mP p.z q.z)) (mP d (mP (mP p.x q.x) (mP p.y q.y))))⟩
theorem plusD_plusQ (p q : Q3) : plusD dN p q = plusQ p q := rfl
section
attribute [local irreducible] fA fL qA
set_option maxRecDepth 100000 in
set_option maxHeartbeats 4000000 in
theorem plusA (d : Nat) (p q : Q3) (hd : d < P) (hp : p.Ok) (hq : q.Ok) (w : World) :
  Calls Tryz.prog 67 #[.agg (fA d), .agg (qA p), .agg (qA q)] w fun e w' => e = .returned (.agg (qA (plusD d p q))) ∧ Below w.heap.size w w' := by
 have hz := zeroFA
 have hzq := zeroQ
 have Hd := hide hd
 have Hp := hide hp
 have Hq := hide hq
 clear hd hp hq
 go_enter Tryz.func67, Tryz.ntmps67
 go_upto_region 1 with fail
 obtain ⟨W0, hW0⟩ : ∃ W, W = (((w.alloc (.cells (fA d) 95)).alloc (.cells (qA p) 98)).alloc (.cells (qA q) 98)).alloc (.cells (qA q0) 98) := ⟨_, rfl⟩
 have RD : Hid (W0.heap[w.heap.size]? = some (.cells (fA d) 95 (0, 0))) := by rw [hW0]; exact at4_0 _ _ _ _ _
 have RP : Hid (W0.heap[w.heap.size + 1]? = some (.cells (qA p) 98 (0, 0))) := by rw [hW0]; exact at4_1 _ _ _ _ _
 have RQ : Hid (W0.heap[w.heap.size + 2]? = some (.cells (qA q) 98 (0, 0))) := by rw [hW0]; exact at4_2 _ _ _ _ _
 have RZ : Hid (W0.heap[w.heap.size + 3]? = some (.cells (qA q0) 98 (0, 0))) := by rw [hW0]; exact at4_3 _ _ _ _ _
 have BL : Hid (Below w.heap.size w W0) := by rw [hW0]; show Below _ _ _; go_grown
 rw [← hW0]
 clear hW0
 go_wp2_with (first | (refine wpList_load_mid (by rfl) 95 (.tmp 15) (by rfl) (w.heap.size + 1) 20 (by rfl) (fL p.z) _ (rangeQ RP.out).2.2 underF rfl (fL_size _) ?_) | (refine wpList_load_mid (by rfl) 95 (.tmp 17) (by rfl) (w.heap.size + 2) 20 (by rfl) (fL q.z) _ (rangeQ RQ.out).2.2 underF rfl (fL_size _) ?_))
 simp only [foldL]
 refine (mulA p.z q.z Hp.out.z Hq.out.z _).mono ?_
 rintro e W1 ⟨rfl, hB1⟩
 have RD := hide (row_keep' RD.out hB1)
 have RP := hide (row_keep' RP.out hB1)
 have RQ := hide (row_keep' RQ.out hB1)
 have RZ := hide (row_keep' RZ.out hB1)
 have BL := kTr BL hB1
 clear hB1
 obtain ⟨z, Ez⟩ : ∃ x, Hid (x = mP p.z q.z) := ⟨_, rfl⟩
 have Hz : Hid (z < P) := by rw [Ez.out]; exact mP_lt _ _
 rw [← Ez.out]
 go_upto_region 2 with (first | (refine wpList_store_row (by rfl) 95 (.tmp 7) (.tmp 19) (by rfl) W1.heap.size (fA z) (by rfl) (by rfl) 95 _ (heap_alloc_new _ _) (fA_size _) (fA_old _ _) (fA_all _) ?_))
 obtain ⟨g7, hg7⟩ : ∃ q, q = W1.heap.size := ⟨_, rfl⟩
 obtain ⟨W2, hW2⟩ : ∃ W, W = (W1.alloc (.cells (fA 0) 95)).setRow W1.heap.size (fA z) := ⟨_, rfl⟩
 have lRDg7 : w.heap.size < g7 := by rw [hg7]; exact lt_row RD.out
 have lRPg7 : w.heap.size + 1 < g7 := by rw [hg7]; exact lt_row RP.out
 have lRQg7 : w.heap.size + 2 < g7 := by rw [hg7]; exact lt_row RQ.out
 have lRZg7 : w.heap.size + 3 < g7 := by rw [hg7]; exact lt_row RZ.out
 have RD' : Hid (W2.heap[w.heap.size]? = some (.cells (fA d) 95 (0, 0))) := by rw [hW2]; exact (setRow_other _ _ _ _ (by omega)).trans ((heap_alloc_old _ _ (by omega)).trans RD.out)
 have RP' : Hid (W2.heap[w.heap.size + 1]? = some (.cells (qA p) 98 (0, 0))) := by rw [hW2]; exact (setRow_other _ _ _ _ (by omega)).trans ((heap_alloc_old _ _ (by omega)).trans RP.out)
 have RQ' : Hid (W2.heap[w.heap.size + 2]? = some (.cells (qA q) 98 (0, 0))) := by rw [hW2]; exact (setRow_other _ _ _ _ (by omega)).trans ((heap_alloc_old _ _ (by omega)).trans RQ.out)
 have RZ' : Hid (W2.heap[w.heap.size + 3]? = some (.cells (qA q0) 98 (0, 0))) := by rw [hW2]; exact (setRow_other _ _ _ _ (by omega)).trans ((heap_alloc_old _ _ (by omega)).trans RZ.out)
 have R7 : Hid (W2.heap[g7]? = some (.cells (fA z) 95 (0, 0))) := by rw [hW2, hg7]; exact setRow_heap _ _ _ _ _ _ (heap_alloc_new _ _)
 have BL' : Hid (Below w.heap.size w W2) := by rw [hW2]; exact below_setRow (BL.out.alloc BL.out.size _) BL.out.size _
 rw [← hW2, ← hg7]
 clear hW2 hg7 BL RD RP RQ RZ
 have RD := RD'
 have RP := RP'
 have RQ := RQ'
 have RZ := RZ'
 have BL := BL'
 clear RD' RP' RQ' RZ' BL'
 go_wp2_with (first | (refine wpList_load_row (by rfl) 95 (.tmp 7) (by rfl) (g7) (by rfl) 95 (fA z) (0, 0) _ R7.out underF rfl (fA_size _) ?_))
 refine (mulA z z Hz.out Hz.out _).mono ?_
 rintro e W3 ⟨rfl, hB3⟩
 have RD := hide (row_keep' RD.out hB3)
 have RP := hide (row_keep' RP.out hB3)
 have RQ := hide (row_keep' RQ.out hB3)
 have RZ := hide (row_keep' RZ.out hB3)
 have R7 := hide (row_keep' R7.out hB3)
 have BL := kTr BL hB3
 clear hB3
 obtain ⟨zz, Ezz⟩ : ∃ x, Hid (x = mP z z) := ⟨_, rfl⟩
 have Hzz : Hid (zz < P) := by rw [Ezz.out]; exact mP_lt _ _
 rw [← Ezz.out]
 go_upto_region 3 with (first | (refine wpList_store_row (by rfl) 95 (.tmp 8) (.tmp 22) (by rfl) W3.heap.size (fA zz) (by rfl) (by rfl) 95 _ (heap_alloc_new _ _) (fA_size _) (fA_old _ _) (fA_all _) ?_))
 obtain ⟨g8, hg8⟩ : ∃ q, q = W3.heap.size := ⟨_, rfl⟩
 obtain ⟨W4, hW4⟩ : ∃ W, W = (W3.alloc (.cells (fA 0) 95)).setRow W3.heap.size (fA zz) := ⟨_, rfl⟩
 have lRDg8 : w.heap.size < g8 := by rw [hg8]; exact lt_row RD.out
 have lRPg8 : w.heap.size + 1 < g8 := by rw [hg8]; exact lt_row RP.out
 have lRQg8 : w.heap.size + 2 < g8 := by rw [hg8]; exact lt_row RQ.out
 have lRZg8 : w.heap.size + 3 < g8 := by rw [hg8]; exact lt_row RZ.out
 have lR7g8 : g7 < g8 := by rw [hg8]; exact lt_row R7.out
 have RD' : Hid (W4.heap[w.heap.size]? = some (.cells (fA d) 95 (0, 0))) := by rw [hW4]; exact (setRow_other _ _ _ _ (by omega)).trans ((heap_alloc_old _ _ (by omega)).trans RD.out)
 have RP' : Hid (W4.heap[w.heap.size + 1]? = some (.cells (qA p) 98 (0, 0))) := by rw [hW4]; exact (setRow_other _ _ _ _ (by omega)).trans ((heap_alloc_old _ _ (by omega)).trans RP.out)
 have RQ' : Hid (W4.heap[w.heap.size + 2]? = some (.cells (qA q) 98 (0, 0))) := by rw [hW4]; exact (setRow_other _ _ _ _ (by omega)).trans ((heap_alloc_old _ _ (by omega)).trans RQ.out)
 have RZ' : Hid (W4.heap[w.heap.size + 3]? = some (.cells (qA q0) 98 (0, 0))) := by rw [hW4]; exact (setRow_other _ _ _ _ (by omega)).trans ((heap_alloc_old _ _ (by omega)).trans RZ.out)
 have R7' : Hid (W4.heap[g7]? = some (.cells (fA z) 95 (0, 0))) := by rw [hW4]; exact (setRow_other _ _ _ _ (by omega)).trans ((heap_alloc_old _ _ (by omega)).trans R7.out)
 have R8 : Hid (W4.heap[g8]? = some (.cells (fA zz) 95 (0, 0))) := by rw [hW4, hg8]; exact setRow_heap _ _ _ _ _ _ (heap_alloc_new _ _)
 have BL' : Hid (Below w.heap.size w W4) := by rw [hW4]; exact below_setRow (BL.out.alloc BL.out.size _) BL.out.size _
 rw [← hW4, ← hg8]
 clear hW4 hg8 BL RD RP RQ RZ R7
 have RD := RD'
 have RP := RP'
 have RQ := RQ'
 have RZ := RZ'
 have R7 := R7'
 have BL := BL'
 clear RD' RP' RQ' RZ' R7' BL'
 go_wp2_with (first | (refine wpList_load_mid (by rfl) 95 (.tmp 23) (by rfl) (w.heap.size + 1) 0 (by rfl) (fL p.x) _ (rangeQ RP.out).1 underF rfl (fL_size _) ?_) | (refine wpList_load_mid (by rfl) 95 (.tmp 25) (by rfl) (w.heap.size + 2) 0 (by rfl) (fL q.x) _ (rangeQ RQ.out).1 underF rfl (fL_size _) ?_))
 simp only [foldL]
 refine (mulA p.x q.x Hp.out.x Hq.out.x _).mono ?_
 rintro e W5 ⟨rfl, hB5⟩
 have RD := hide (row_keep' RD.out hB5)
 have RP := hide (row_keep' RP.out hB5)
 have RQ := hide (row_keep' RQ.out hB5)
 have RZ := hide (row_keep' RZ.out hB5)
 have R7 := hide (row_keep' R7.out hB5)
 have R8 := hide (row_keep' R8.out hB5)
 have BL := kTr BL hB5
 clear hB5
 obtain ⟨xx, Exx⟩ : ∃ x, Hid (x = mP p.x q.x) := ⟨_, rfl⟩
 have Hxx : Hid (xx < P) := by rw [Exx.out]; exact mP_lt _ _
 rw [← Exx.out]
 go_upto_region 4 with (first | (refine wpList_store_row (by rfl) 95 (.tmp 9) (.tmp 27) (by rfl) W5.heap.size (fA xx) (by rfl) (by rfl) 95 _ (heap_alloc_new _ _) (fA_size _) (fA_old _ _) (fA_all _) ?_))
 obtain ⟨g9, hg9⟩ : ∃ q, q = W5.heap.size := ⟨_, rfl⟩
 obtain ⟨W6, hW6⟩ : ∃ W, W = (W5.alloc (.cells (fA 0) 95)).setRow W5.heap.size (fA xx) := ⟨_, rfl⟩
 have lRDg9 : w.heap.size < g9 := by rw [hg9]; exact lt_row RD.out
 have lRPg9 : w.heap.size + 1 < g9 := by rw [hg9]; exact lt_row RP.out
 have lRQg9 : w.heap.size + 2 < g9 := by rw [hg9]; exact lt_row RQ.out
 have lRZg9 : w.heap.size + 3 < g9 := by rw [hg9]; exact lt_row RZ.out
 have lR7g9 : g7 < g9 := by rw [hg9]; exact lt_row R7.out
 have lR8g9 : g8 < g9 := by rw [hg9]; exact lt_row R8.out
 have RD' : Hid (W6.heap[w.heap.size]? = some (.cells (fA d) 95 (0, 0))) := by rw [hW6]; exact (setRow_other _ _ _ _ (by omega)).trans ((heap_alloc_old _ _ (by omega)).trans RD.out)
 have RP' : Hid (W6.heap[w.heap.size + 1]? = some (.cells (qA p) 98 (0, 0))) := by rw [hW6]; exact (setRow_other _ _ _ _ (by omega)).trans ((heap_alloc_old _ _ (by omega)).trans RP.out)
 have RQ' : Hid (W6.heap[w.heap.size + 2]? = some (.cells (qA q) 98 (0, 0))) := by rw [hW6]; exact (setRow_other _ _ _ _ (by omega)).trans ((heap_alloc_old _ _ (by omega)).trans RQ.out)
 have RZ' : Hid (W6.heap[w.heap.size + 3]? = some (.cells (qA q0) 98 (0, 0))) := by rw [hW6]; exact (setRow_other _ _ _ _ (by omega)).trans ((heap_alloc_old _ _ (by omega)).trans RZ.out)
 have R7' : Hid (W6.heap[g7]? = some (.cells (fA z) 95 (0, 0))) := by rw [hW6]; exact (setRow_other _ _ _ _ (by omega)).trans ((heap_alloc_old _ _ (by omega)).trans R7.out)
 have R8' : Hid (W6.heap[g8]? = some (.cells (fA zz) 95 (0, 0))) := by rw [hW6]; exact (setRow_other _ _ _ _ (by omega)).trans ((heap_alloc_old _ _ (by omega)).trans R8.out)
 have R9 : Hid (W6.heap[g9]? = some (.cells (fA xx) 95 (0, 0))) := by rw [hW6, hg9]; exact setRow_heap _ _ _ _ _ _ (heap_alloc_new _ _)
 have BL' : Hid (Below w.heap.size w W6) := by rw [hW6]; exact below_setRow (BL.out.alloc BL.out.size _) BL.out.size _
 rw [← hW6, ← hg9]
 clear hW6 hg9 BL RD RP RQ RZ R7 R8
 have RD := RD'
 have RP := RP'
 have RQ := RQ'
 have RZ := RZ'
 have R7 := R7'
 have R8 := R8'
 have BL := BL'
 clear RD' RP' RQ' RZ' R7' R8' BL'
 go_wp2_with (first | (refine wpList_load_mid (by rfl) 95 (.tmp 28) (by rfl) (w.heap.size + 1) 10 (by rfl) (fL p.y) _ (rangeQ RP.out).2.1 underF rfl (fL_size _) ?_) | (refine wpList_load_mid (by rfl) 95 (.tmp 30) (by rfl) (w.heap.size + 2) 10 (by rfl) (fL q.y) _ (rangeQ RQ.out).2.1 underF rfl (fL_size _) ?_))
 simp only [foldL]
 refine (mulA p.y q.y Hp.out.y Hq.out.y _).mono ?_
 rintro e W7 ⟨rfl, hB7⟩
 have RD := hide (row_keep' RD.out hB7)
 have RP := hide (row_keep' RP.out hB7)
 have RQ := hide (row_keep' RQ.out hB7)
 have RZ := hide (row_keep' RZ.out hB7)
 have R7 := hide (row_keep' R7.out hB7)
 have R8 := hide (row_keep' R8.out hB7)
 have R9 := hide (row_keep' R9.out hB7)
 have BL := kTr BL hB7
 clear hB7
 obtain ⟨yy, Eyy⟩ : ∃ x, Hid (x = mP p.y q.y) := ⟨_, rfl⟩
 have Hyy : Hid (yy < P) := by rw [Eyy.out]; exact mP_lt _ _
 rw [← Eyy.out]
 go_wp2_with (first | (refine wpList_store_row (by rfl) 95 (.tmp 10) (.tmp 32) (by rfl) W7.heap.size (fA yy) (by rfl) (by rfl) 95 _ (heap_alloc_new _ _) (fA_size _) (fA_old _ _) (fA_all _) ?_))
 obtain ⟨g10, hg10⟩ : ∃ q, q = W7.heap.size := ⟨_, rfl⟩
 obtain ⟨W8, hW8⟩ : ∃ W, W = (W7.alloc (.cells (fA 0) 95)).setRow W7.heap.size (fA yy) := ⟨_, rfl⟩
 have lRDg10 : w.heap.size < g10 := by rw [hg10]; exact lt_row RD.out
 have lRPg10 : w.heap.size + 1 < g10 := by rw [hg10]; exact lt_row RP.out
 have lRQg10 : w.heap.size + 2 < g10 := by rw [hg10]; exact lt_row RQ.out
 have lRZg10 : w.heap.size + 3 < g10 := by rw [hg10]; exact lt_row RZ.out
 have lR7g10 : g7 < g10 := by rw [hg10]; exact lt_row R7.out
 have lR8g10 : g8 < g10 := by rw [hg10]; exact lt_row R8.out
 have lR9g10 : g9 < g10 := by rw [hg10]; exact lt_row R9.out
 have RD' : Hid (W8.heap[w.heap.size]? = some (.cells (fA d) 95 (0, 0))) := by rw [hW8]; exact (setRow_other _ _ _ _ (by omega)).trans ((heap_alloc_old _ _ (by omega)).trans RD.out)
 have RP' : Hid (W8.heap[w.heap.size + 1]? = some (.cells (qA p) 98 (0, 0))) := by rw [hW8]; exact (setRow_other _ _ _ _ (by omega)).trans ((heap_alloc_old _ _ (by omega)).trans RP.out)
 have RQ' : Hid (W8.heap[w.heap.size + 2]? = some (.cells (qA q) 98 (0, 0))) := by rw [hW8]; exact (setRow_other _ _ _ _ (by omega)).trans ((heap_alloc_old _ _ (by omega)).trans RQ.out)
 have RZ' : Hid (W8.heap[w.heap.size + 3]? = some (.cells (qA q0) 98 (0, 0))) := by rw [hW8]; exact (setRow_other _ _ _ _ (by omega)).trans ((heap_alloc_old _ _ (by omega)).trans RZ.out)
 have R7' : Hid (W8.heap[g7]? = some (.cells (fA z) 95 (0, 0))) := by rw [hW8]; exact (setRow_other _ _ _ _ (by omega)).trans ((heap_alloc_old _ _ (by omega)).trans R7.out)
 have R8' : Hid (W8.heap[g8]? = some (.cells (fA zz) 95 (0, 0))) := by rw [hW8]; exact (setRow_other _ _ _ _ (by omega)).trans ((heap_alloc_old _ _ (by omega)).trans R8.out)
 have R9' : Hid (W8.heap[g9]? = some (.cells (fA xx) 95 (0, 0))) := by rw [hW8]; exact (setRow_other _ _ _ _ (by omega)).trans ((heap_alloc_old _ _ (by omega)).trans R9.out)
 have R10 : Hid (W8.heap[g10]? = some (.cells (fA yy) 95 (0, 0))) := by rw [hW8, hg10]; exact setRow_heap _ _ _ _ _ _ (heap_alloc_new _ _)
 have BL' : Hid (Below w.heap.size w W8) := by rw [hW8]; exact below_setRow (BL.out.alloc BL.out.size _) BL.out.size _
 rw [put_none', ← hW8, ← hg10]
 clear hW8 hg10 BL RD RP RQ RZ R7 R8 R9
 have RD := RD'
 have RP := RP'
 have RQ := RQ'
 have RZ := RZ'
 have R7 := R7'
 have R8 := R8'
 have R9 := R9'
 have BL := BL'
 clear RD' RP' RQ' RZ' R7' R8' R9' BL'
 go_cut [11] from 33 to 37 (fun s wx => ∃ g, s = .pointer (some ⟨g, 0, none⟩) ∧ Hid (W8.heap.size ≤ g) ∧ Hid (wx.heap[g]? = some (.cells (fA (mP d (mP xx yy))) 95 (0, 0))) ∧ Hid (Below W8.heap.size W8 wx))
 case first =>
  refine wp_region_held_drew (S := fun w' => w'.rangeAt (w.heap.size) 0 (fL d) ∧ w'.rangeAt (g9) 0 (fL xx) ∧ w'.rangeAt (g10) 0 (fL yy)) (by kernel_rfl) (by exact ⟨rangeL RD.out, rangeL R9.out, rangeL R10.out⟩) (fun hHeld => ?_)
  obtain ⟨V1, hV1⟩ : ∃ V, V = W8.drew := ⟨_, rfl⟩
  rw [← hV1] at hHeld ⊢
  have KV1 : Hid (Below W8.heap.size W8 V1) := by rw [hV1]; exact (Below.refl _ _).drew
  clear hV1
  refine wpAnyH_take (i := 0) (oi := ⟨some 33, .load 95 (.tmp 3), 95, "point.go:14", #[], none⟩) (v := .agg (fA d)) rfl (by kernel_rfl) (by kernel_rfl) (by kernel_rfl) (fun _ _ _ h => h) (yldF (by rfl) _ rfl (w.heap.size) 0 d rfl (fun w h => h.1)) hHeld ?_
  simp only [zaP, zsT, zsZ, zsS]
  refine wpAnyH_take (i := 1) (oi := ⟨some 34, .load 95 (.tmp 9), 95, "point.go:14", #[], none⟩) (v := .agg (fA xx)) rfl (by kernel_rfl) (by kernel_rfl) (by kernel_rfl) (fun _ _ _ h => h) (yldF (by rfl) _ rfl (g9) 0 xx rfl (fun w h => h.2.1)) hHeld ?_
  simp only [zaP, zsT, zsZ, zsS]
  refine wpAnyH_take (i := 2) (oi := ⟨some 35, .load 95 (.tmp 10), 95, "point.go:14", #[], none⟩) (v := .agg (fA yy)) rfl (by kernel_rfl) (by kernel_rfl) (by kernel_rfl) (fun _ _ _ h => h) (yldF (by rfl) _ rfl (g10) 0 yy rfl (fun w h => h.2.2)) hHeld ?_
  simp only [zaP, zsT, zsZ, zsS]
  refine wpAnyH_ready (rs := [3, 5]) (by kernel_rfl) (by simp) ?_
  refine AllReadyH.cons (o := ⟨some 36, .call ⟨.value (.func 63), #[.tmp 34, .tmp 35], #[95, 95]⟩, 95, "point.go:14", #[zeD 1, zeD 2], none⟩) rfl (fun K hK => ?_) ?_
  ·
   refine step_callTo (by rfl) _ _ (hrunMul _ _ rfl (.agg (fA xx)) (.agg (fA yy)) rfl rfl V1) _ _ (mulA xx yy Hxx.out Hyy.out V1) (fun V2 HBx => ?_)
   have KV2 := kTr KV1 HBx
   clear HBx
   refine hK.out _ _ ?_ (fun hHeld => ?_)
   · exact ⟨kLm RD KV2, kLm R9 KV2, kLm R10 KV2⟩
   clear hK K
   try simp only [zaP, zsT, zsZ, zsS]
   refine wpAnyH_ready (rs := [4, 5]) (by kernel_rfl) (by simp) ?_
   refine AllReadyH.cons (o := ⟨some 37, .call ⟨.value (.func 63), #[.tmp 33, .tmp 36], #[95, 95]⟩, 95, "point.go:14", #[zeD 0, zeD 3, zeC 3], none⟩) rfl (fun K hK => ?_) ?_
   ·
    refine step_callTo (by rfl) _ _ (hrunMul _ _ rfl (.agg (fA d)) (.agg (fA (mP xx yy))) rfl rfl V2) _ _ (mulA d (mP xx yy) Hd.out (mP_lt _ _) V2) (fun V3 HBx => ?_)
    have KV3 := kTr KV2 HBx
    clear HBx
    refine hK.out _ _ ?_ (fun hHeld => ?_)
    · exact ⟨kLm RD KV3, kLm R9 KV3, kLm R10 KV3⟩
    clear hK K
    try simp only [zaP, zsT, zsZ, zsS]
    refine wpAnyH_ready (rs := [5]) (by kernel_rfl) (by simp) ?_
    refine AllReadyH.cons (o := oRefPlus5) rfl (fun K hK => ?_) ?_
    ·
     refine step_runTo (w' := V3.alloc (.cells (fA 0) 95)) (by rfl) (.pointer (some ⟨V3.heap.size, 0, none⟩)) (hrunAllocF rfl V3) ?_
     obtain ⟨g4, hg4⟩ : ∃ g, g = V3.heap.size := ⟨_, rfl⟩
     have ZN : Hid ((V3.alloc (.cells (fA 0) 95)).heap[g4]? = some (.cells (fA 0) 95 (0, 0))) := by rw [hg4]; exact heap_alloc_new _ _
     have KV4 := kAl KV3 (.cells (fA 0) 95)
     have GG : Hid (W8.heap.size ≤ g4) := by rw [hg4]; exact KV3.out.size
     rw [← hg4]
     obtain ⟨V4, hV4⟩ : ∃ V, V = V3.alloc (.cells (fA 0) 95) := ⟨_, rfl⟩
     rw [← hV4] at ZN KV4 ⊢
     clear hV4 hg4
     refine hK.out _ _ ?_ (fun hHeld => ?_)
     · exact ⟨kLm RD KV4, kLm R9 KV4, kLm R10 KV4⟩
     clear hK K
     try simp only [zaP, zsT, zsZ, zsS]
     refine wpAnyH_ready (rs := [6]) (by kernel_rfl) (by simp) ?_
     refine AllReadyH.cons (o := oRefPlus6) rfl (fun K hK => ?_) ?_
     ·
      refine step_store_row _ (by rfl) 95 (.tmp 11) (.tmp 37) (by rfl) (g4) (fA (mP d (mP xx yy))) (by rfl) (by rfl) 95 _ ZN.out (fA_size _) (fA_old _ _) (fA_all _) ?_
      rw [put_none']
      refine hK.out _ _ ?_ (fun hHeld => ?_)
      · exact ⟨range_set (kLm RD KV4) (Nat.ne_of_lt (Nat.lt_of_lt_of_le (lt_row RD.out) GG.out)), range_set (kLm R9 KV4) (Nat.ne_of_lt (Nat.lt_of_lt_of_le (lt_row R9.out) GG.out)), range_set (kLm R10 KV4) (Nat.ne_of_lt (Nat.lt_of_lt_of_le (lt_row R10.out) GG.out))⟩
      clear hK K
      try simp only [zaP, zsT, zsZ, zsS]
      refine wpAnyH_done (by kernel_rfl) ?_ _
      go_wp2_with fail
      go_meet
      case rel => exact ⟨g4, rfl, GG, hide (setRow_heap _ _ _ _ _ _ ZN.out), hide (below_setRow KV4.out GG.out _)⟩
     exact AllReadyH.nil
    exact AllReadyH.nil
   refine AllReadyH.cons (o := oRefPlus5) rfl (fun K hK => ?_) ?_
   ·
    refine step_runTo (w' := V2.alloc (.cells (fA 0) 95)) (by rfl) (.pointer (some ⟨V2.heap.size, 0, none⟩)) (hrunAllocF rfl V2) ?_
    obtain ⟨g5, hg5⟩ : ∃ g, g = V2.heap.size := ⟨_, rfl⟩
    have ZN : Hid ((V2.alloc (.cells (fA 0) 95)).heap[g5]? = some (.cells (fA 0) 95 (0, 0))) := by rw [hg5]; exact heap_alloc_new _ _
    have KV5 := kAl KV2 (.cells (fA 0) 95)
    have GG : Hid (W8.heap.size ≤ g5) := by rw [hg5]; exact KV2.out.size
    rw [← hg5]
    obtain ⟨V5, hV5⟩ : ∃ V, V = V2.alloc (.cells (fA 0) 95) := ⟨_, rfl⟩
    rw [← hV5] at ZN KV5 ⊢
    clear hV5 hg5
    refine hK.out _ _ ?_ (fun hHeld => ?_)
    · exact ⟨kLm RD KV5, kLm R9 KV5, kLm R10 KV5⟩
    clear hK K
    try simp only [zaP, zsT, zsZ, zsS]
    refine wpAnyH_ready (rs := [4]) (by kernel_rfl) (by simp) ?_
    refine AllReadyH.cons (o := ⟨some 37, .call ⟨.value (.func 63), #[.tmp 33, .tmp 36], #[95, 95]⟩, 95, "point.go:14", #[zeD 0, zeD 3, zeC 3], none⟩) rfl (fun K hK => ?_) ?_
    ·
     refine step_callTo (by rfl) _ _ (hrunMul _ _ rfl (.agg (fA d)) (.agg (fA (mP xx yy))) rfl rfl V5) _ _ (mulA d (mP xx yy) Hd.out (mP_lt _ _) V5) (fun V6 HBx => ?_)
     have KV6 := kTr KV5 HBx
     have ZN := hide (row_keep' ZN.out HBx)
     clear HBx
     refine hK.out _ _ ?_ (fun hHeld => ?_)
     · exact ⟨kLm RD KV6, kLm R9 KV6, kLm R10 KV6⟩
     clear hK K
     try simp only [zaP, zsT, zsZ, zsS]
     refine wpAnyH_ready (rs := [6]) (by kernel_rfl) (by simp) ?_
     refine AllReadyH.cons (o := oRefPlus6) rfl (fun K hK => ?_) ?_
     ·
      refine step_store_row _ (by rfl) 95 (.tmp 11) (.tmp 37) (by rfl) (g5) (fA (mP d (mP xx yy))) (by rfl) (by rfl) 95 _ ZN.out (fA_size _) (fA_old _ _) (fA_all _) ?_
      rw [put_none']
      refine hK.out _ _ ?_ (fun hHeld => ?_)
      · exact ⟨range_set (kLm RD KV6) (Nat.ne_of_lt (Nat.lt_of_lt_of_le (lt_row RD.out) GG.out)), range_set (kLm R9 KV6) (Nat.ne_of_lt (Nat.lt_of_lt_of_le (lt_row R9.out) GG.out)), range_set (kLm R10 KV6) (Nat.ne_of_lt (Nat.lt_of_lt_of_le (lt_row R10.out) GG.out))⟩
      clear hK K
      try simp only [zaP, zsT, zsZ, zsS]
      refine wpAnyH_done (by kernel_rfl) ?_ _
      go_wp2_with fail
      go_meet
      case rel => exact ⟨g5, rfl, GG, hide (setRow_heap _ _ _ _ _ _ ZN.out), hide (below_setRow KV6.out GG.out _)⟩
     exact AllReadyH.nil
    exact AllReadyH.nil
   exact AllReadyH.nil
  refine AllReadyH.cons (o := oRefPlus5) rfl (fun K hK => ?_) ?_
  ·
   refine step_runTo (w' := V1.alloc (.cells (fA 0) 95)) (by rfl) (.pointer (some ⟨V1.heap.size, 0, none⟩)) (hrunAllocF rfl V1) ?_
   obtain ⟨g7, hg7⟩ : ∃ g, g = V1.heap.size := ⟨_, rfl⟩
   have ZN : Hid ((V1.alloc (.cells (fA 0) 95)).heap[g7]? = some (.cells (fA 0) 95 (0, 0))) := by rw [hg7]; exact heap_alloc_new _ _
   have KV7 := kAl KV1 (.cells (fA 0) 95)
   have GG : Hid (W8.heap.size ≤ g7) := by rw [hg7]; exact KV1.out.size
   rw [← hg7]
   obtain ⟨V7, hV7⟩ : ∃ V, V = V1.alloc (.cells (fA 0) 95) := ⟨_, rfl⟩
   rw [← hV7] at ZN KV7 ⊢
   clear hV7 hg7
   refine hK.out _ _ ?_ (fun hHeld => ?_)
   · exact ⟨kLm RD KV7, kLm R9 KV7, kLm R10 KV7⟩
   clear hK K
   try simp only [zaP, zsT, zsZ, zsS]
   refine wpAnyH_ready (rs := [3]) (by kernel_rfl) (by simp) ?_
   refine AllReadyH.cons (o := ⟨some 36, .call ⟨.value (.func 63), #[.tmp 34, .tmp 35], #[95, 95]⟩, 95, "point.go:14", #[zeD 1, zeD 2], none⟩) rfl (fun K hK => ?_) ?_
   ·
    refine step_callTo (by rfl) _ _ (hrunMul _ _ rfl (.agg (fA xx)) (.agg (fA yy)) rfl rfl V7) _ _ (mulA xx yy Hxx.out Hyy.out V7) (fun V8 HBx => ?_)
    have KV8 := kTr KV7 HBx
    have ZN := hide (row_keep' ZN.out HBx)
    clear HBx
    refine hK.out _ _ ?_ (fun hHeld => ?_)
    · exact ⟨kLm RD KV8, kLm R9 KV8, kLm R10 KV8⟩
    clear hK K
    try simp only [zaP, zsT, zsZ, zsS]
    refine wpAnyH_ready (rs := [4]) (by kernel_rfl) (by simp) ?_
    refine AllReadyH.cons (o := ⟨some 37, .call ⟨.value (.func 63), #[.tmp 33, .tmp 36], #[95, 95]⟩, 95, "point.go:14", #[zeD 0, zeD 3, zeC 3], none⟩) rfl (fun K hK => ?_) ?_
    ·
     refine step_callTo (by rfl) _ _ (hrunMul _ _ rfl (.agg (fA d)) (.agg (fA (mP xx yy))) rfl rfl V8) _ _ (mulA d (mP xx yy) Hd.out (mP_lt _ _) V8) (fun V9 HBx => ?_)
     have KV9 := kTr KV8 HBx
     have ZN := hide (row_keep' ZN.out HBx)
     clear HBx
     refine hK.out _ _ ?_ (fun hHeld => ?_)
     · exact ⟨kLm RD KV9, kLm R9 KV9, kLm R10 KV9⟩
     clear hK K
     try simp only [zaP, zsT, zsZ, zsS]
     refine wpAnyH_ready (rs := [6]) (by kernel_rfl) (by simp) ?_
     refine AllReadyH.cons (o := oRefPlus6) rfl (fun K hK => ?_) ?_
     ·
      refine step_store_row _ (by rfl) 95 (.tmp 11) (.tmp 37) (by rfl) (g7) (fA (mP d (mP xx yy))) (by rfl) (by rfl) 95 _ ZN.out (fA_size _) (fA_old _ _) (fA_all _) ?_
      rw [put_none']
      refine hK.out _ _ ?_ (fun hHeld => ?_)
      · exact ⟨range_set (kLm RD KV9) (Nat.ne_of_lt (Nat.lt_of_lt_of_le (lt_row RD.out) GG.out)), range_set (kLm R9 KV9) (Nat.ne_of_lt (Nat.lt_of_lt_of_le (lt_row R9.out) GG.out)), range_set (kLm R10 KV9) (Nat.ne_of_lt (Nat.lt_of_lt_of_le (lt_row R10.out) GG.out))⟩
      clear hK K
      try simp only [zaP, zsT, zsZ, zsS]
      refine wpAnyH_done (by kernel_rfl) ?_ _
      go_wp2_with fail
      go_meet
      case rel => exact ⟨g7, rfl, GG, hide (setRow_heap _ _ _ _ _ _ ZN.out), hide (below_setRow KV9.out GG.out _)⟩
     exact AllReadyH.nil
    exact AllReadyH.nil
   exact AllReadyH.nil
  exact AllReadyH.nil
 case rest =>
 obtain ⟨g11, rfl, Gg11, R11, Xg11⟩ := hcut
 obtain ⟨W9, hW⟩ : ∃ W, W = wc := ⟨_, rfl⟩
 subst hW
 have lRDg11 : w.heap.size < g11 := Nat.lt_of_lt_of_le (lt_row RD.out) Gg11.out
 have lRPg11 : w.heap.size + 1 < g11 := Nat.lt_of_lt_of_le (lt_row RP.out) Gg11.out
 have lRQg11 : w.heap.size + 2 < g11 := Nat.lt_of_lt_of_le (lt_row RQ.out) Gg11.out
 have lRZg11 : w.heap.size + 3 < g11 := Nat.lt_of_lt_of_le (lt_row RZ.out) Gg11.out
 have lR7g11 : g7 < g11 := Nat.lt_of_lt_of_le (lt_row R7.out) Gg11.out
 have lR8g11 : g8 < g11 := Nat.lt_of_lt_of_le (lt_row R8.out) Gg11.out
 have lR9g11 : g9 < g11 := Nat.lt_of_lt_of_le (lt_row R9.out) Gg11.out
 have lR10g11 : g10 < g11 := Nat.lt_of_lt_of_le (lt_row R10.out) Gg11.out
 have RD := hide (row_below RD.out Xg11.out (lt_row RD.out))
 have RP := hide (row_below RP.out Xg11.out (lt_row RP.out))
 have RQ := hide (row_below RQ.out Xg11.out (lt_row RQ.out))
 have RZ := hide (row_below RZ.out Xg11.out (lt_row RZ.out))
 have R7 := hide (row_below R7.out Xg11.out (lt_row R7.out))
 have R8 := hide (row_below R8.out Xg11.out (lt_row R8.out))
 have R9 := hide (row_below R9.out Xg11.out (lt_row R9.out))
 have R10 := hide (row_below R10.out Xg11.out (lt_row R10.out))
 have BL : Hid (Below w.heap.size w W9) := BL.out.trans (Xg11.out.mono BL.out.size)
 clear Xg11 Gg11
 obtain ⟨e, Ee⟩ : ∃ x, Hid (x = mP d (mP xx yy)) := ⟨_, rfl⟩
 have He : Hid (e < P) := by rw [Ee.out]; exact mP_lt _ _
 rw [← Ee.out] at R11
 go_wp2_with (first | (refine wpList_load_row (by rfl) 95 (.tmp 8) (by rfl) (g8) (by rfl) 95 (fA zz) (0, 0) _ R8.out underF rfl (fA_size _) ?_) | (refine wpList_load_row (by rfl) 95 (.tmp 11) (by rfl) (g11) (by rfl) 95 (fA e) (0, 0) _ R11.out underF rfl (fA_size _) ?_))
 refine (subA' zz e Hzz.out He.out _).mono ?_
 rintro e W10 ⟨rfl, hB10⟩
 have RD := hide (row_keep' RD.out hB10)
 have RP := hide (row_keep' RP.out hB10)
 have RQ := hide (row_keep' RQ.out hB10)
 have RZ := hide (row_keep' RZ.out hB10)
 have R7 := hide (row_keep' R7.out hB10)
 have R8 := hide (row_keep' R8.out hB10)
 have R9 := hide (row_keep' R9.out hB10)
 have R10 := hide (row_keep' R10.out hB10)
 have R11 := hide (row_keep' R11.out hB10)
 have BL := kTr BL hB10
 clear hB10
 obtain ⟨f, Ef⟩ : ∃ x, Hid (x = sP zz e) := ⟨_, rfl⟩
 have Hf : Hid (f < P) := by rw [Ef.out]; exact sP_lt _ _
 rw [← Ef.out]
 go_upto_region 7 with (first | (refine wpList_store_row (by rfl) 95 (.tmp 12) (.tmp 40) (by rfl) W10.heap.size (fA f) (by rfl) (by rfl) 95 _ (heap_alloc_new _ _) (fA_size _) (fA_old _ _) (fA_all _) ?_))
 obtain ⟨g12, hg12⟩ : ∃ q, q = W10.heap.size := ⟨_, rfl⟩
 obtain ⟨W11, hW11⟩ : ∃ W, W = (W10.alloc (.cells (fA 0) 95)).setRow W10.heap.size (fA f) := ⟨_, rfl⟩
 have lRDg12 : w.heap.size < g12 := by rw [hg12]; exact lt_row RD.out
 have lRPg12 : w.heap.size + 1 < g12 := by rw [hg12]; exact lt_row RP.out
 have lRQg12 : w.heap.size + 2 < g12 := by rw [hg12]; exact lt_row RQ.out
 have lRZg12 : w.heap.size + 3 < g12 := by rw [hg12]; exact lt_row RZ.out
 have lR7g12 : g7 < g12 := by rw [hg12]; exact lt_row R7.out
 have lR8g12 : g8 < g12 := by rw [hg12]; exact lt_row R8.out
 have lR9g12 : g9 < g12 := by rw [hg12]; exact lt_row R9.out
 have lR10g12 : g10 < g12 := by rw [hg12]; exact lt_row R10.out
 have lR11g12 : g11 < g12 := by rw [hg12]; exact lt_row R11.out
 have RD' : Hid (W11.heap[w.heap.size]? = some (.cells (fA d) 95 (0, 0))) := by rw [hW11]; exact (setRow_other _ _ _ _ (by omega)).trans ((heap_alloc_old _ _ (by omega)).trans RD.out)
 have RP' : Hid (W11.heap[w.heap.size + 1]? = some (.cells (qA p) 98 (0, 0))) := by rw [hW11]; exact (setRow_other _ _ _ _ (by omega)).trans ((heap_alloc_old _ _ (by omega)).trans RP.out)
 have RQ' : Hid (W11.heap[w.heap.size + 2]? = some (.cells (qA q) 98 (0, 0))) := by rw [hW11]; exact (setRow_other _ _ _ _ (by omega)).trans ((heap_alloc_old _ _ (by omega)).trans RQ.out)
 have RZ' : Hid (W11.heap[w.heap.size + 3]? = some (.cells (qA q0) 98 (0, 0))) := by rw [hW11]; exact (setRow_other _ _ _ _ (by omega)).trans ((heap_alloc_old _ _ (by omega)).trans RZ.out)
 have R7' : Hid (W11.heap[g7]? = some (.cells (fA z) 95 (0, 0))) := by rw [hW11]; exact (setRow_other _ _ _ _ (by omega)).trans ((heap_alloc_old _ _ (by omega)).trans R7.out)
 have R8' : Hid (W11.heap[g8]? = some (.cells (fA zz) 95 (0, 0))) := by rw [hW11]; exact (setRow_other _ _ _ _ (by omega)).trans ((heap_alloc_old _ _ (by omega)).trans R8.out)
 have R9' : Hid (W11.heap[g9]? = some (.cells (fA xx) 95 (0, 0))) := by rw [hW11]; exact (setRow_other _ _ _ _ (by omega)).trans ((heap_alloc_old _ _ (by omega)).trans R9.out)
 have R10' : Hid (W11.heap[g10]? = some (.cells (fA yy) 95 (0, 0))) := by rw [hW11]; exact (setRow_other _ _ _ _ (by omega)).trans ((heap_alloc_old _ _ (by omega)).trans R10.out)
 have R11' : Hid (W11.heap[g11]? = some (.cells (fA e) 95 (0, 0))) := by rw [hW11]; exact (setRow_other _ _ _ _ (by omega)).trans ((heap_alloc_old _ _ (by omega)).trans R11.out)
 have R12 : Hid (W11.heap[g12]? = some (.cells (fA f) 95 (0, 0))) := by rw [hW11, hg12]; exact setRow_heap _ _ _ _ _ _ (heap_alloc_new _ _)
 have BL' : Hid (Below w.heap.size w W11) := by rw [hW11]; exact below_setRow (BL.out.alloc BL.out.size _) BL.out.size _
 rw [← hW11, ← hg12]
 clear hW11 hg12 BL RD RP RQ RZ R7 R8 R9 R10 R11
 have RD := RD'
 have RP := RP'
 have RQ := RQ'
 have RZ := RZ'
 have R7 := R7'
 have R8 := R8'
 have R9 := R9'
 have R10 := R10'
 have R11 := R11'
 have BL := BL'
 clear RD' RP' RQ' RZ' R7' R8' R9' R10' R11' BL'
 go_wp2_with (first | (refine wpList_load_row (by rfl) 95 (.tmp 8) (by rfl) (g8) (by rfl) 95 (fA zz) (0, 0) _ R8.out underF rfl (fA_size _) ?_) | (refine wpList_load_row (by rfl) 95 (.tmp 11) (by rfl) (g11) (by rfl) 95 (fA e) (0, 0) _ R11.out underF rfl (fA_size _) ?_))
 refine (addA zz e Hzz.out He.out _).mono ?_
 rintro e W12 ⟨rfl, hB12⟩
 have RD := hide (row_keep' RD.out hB12)
 have RP := hide (row_keep' RP.out hB12)
 have RQ := hide (row_keep' RQ.out hB12)
 have RZ := hide (row_keep' RZ.out hB12)
 have R7 := hide (row_keep' R7.out hB12)
 have R8 := hide (row_keep' R8.out hB12)
 have R9 := hide (row_keep' R9.out hB12)
 have R10 := hide (row_keep' R10.out hB12)
 have R11 := hide (row_keep' R11.out hB12)
 have R12 := hide (row_keep' R12.out hB12)
 have BL := kTr BL hB12
 clear hB12
 obtain ⟨h, Eh⟩ : ∃ x, Hid (x = aP zz e) := ⟨_, rfl⟩
 have Hh : Hid (h < P) := by rw [Eh.out]; exact aP_lt _ _
 rw [← Eh.out]
 go_wp2_with (first | (refine wpList_store_row (by rfl) 95 (.tmp 13) (.tmp 43) (by rfl) W12.heap.size (fA h) (by rfl) (by rfl) 95 _ (heap_alloc_new _ _) (fA_size _) (fA_old _ _) (fA_all _) ?_))
 obtain ⟨g13, hg13⟩ : ∃ q, q = W12.heap.size := ⟨_, rfl⟩
 obtain ⟨W13, hW13⟩ : ∃ W, W = (W12.alloc (.cells (fA 0) 95)).setRow W12.heap.size (fA h) := ⟨_, rfl⟩
 have lRDg13 : w.heap.size < g13 := by rw [hg13]; exact lt_row RD.out
 have lRPg13 : w.heap.size + 1 < g13 := by rw [hg13]; exact lt_row RP.out
 have lRQg13 : w.heap.size + 2 < g13 := by rw [hg13]; exact lt_row RQ.out
 have lRZg13 : w.heap.size + 3 < g13 := by rw [hg13]; exact lt_row RZ.out
 have lR7g13 : g7 < g13 := by rw [hg13]; exact lt_row R7.out
 have lR8g13 : g8 < g13 := by rw [hg13]; exact lt_row R8.out
 have lR9g13 : g9 < g13 := by rw [hg13]; exact lt_row R9.out
 have lR10g13 : g10 < g13 := by rw [hg13]; exact lt_row R10.out
 have lR11g13 : g11 < g13 := by rw [hg13]; exact lt_row R11.out
 have lR12g13 : g12 < g13 := by rw [hg13]; exact lt_row R12.out
 have RD' : Hid (W13.heap[w.heap.size]? = some (.cells (fA d) 95 (0, 0))) := by rw [hW13]; exact (setRow_other _ _ _ _ (by omega)).trans ((heap_alloc_old _ _ (by omega)).trans RD.out)
 have RP' : Hid (W13.heap[w.heap.size + 1]? = some (.cells (qA p) 98 (0, 0))) := by rw [hW13]; exact (setRow_other _ _ _ _ (by omega)).trans ((heap_alloc_old _ _ (by omega)).trans RP.out)
 have RQ' : Hid (W13.heap[w.heap.size + 2]? = some (.cells (qA q) 98 (0, 0))) := by rw [hW13]; exact (setRow_other _ _ _ _ (by omega)).trans ((heap_alloc_old _ _ (by omega)).trans RQ.out)
 have RZ' : Hid (W13.heap[w.heap.size + 3]? = some (.cells (qA q0) 98 (0, 0))) := by rw [hW13]; exact (setRow_other _ _ _ _ (by omega)).trans ((heap_alloc_old _ _ (by omega)).trans RZ.out)
 have R7' : Hid (W13.heap[g7]? = some (.cells (fA z) 95 (0, 0))) := by rw [hW13]; exact (setRow_other _ _ _ _ (by omega)).trans ((heap_alloc_old _ _ (by omega)).trans R7.out)
 have R8' : Hid (W13.heap[g8]? = some (.cells (fA zz) 95 (0, 0))) := by rw [hW13]; exact (setRow_other _ _ _ _ (by omega)).trans ((heap_alloc_old _ _ (by omega)).trans R8.out)
 have R9' : Hid (W13.heap[g9]? = some (.cells (fA xx) 95 (0, 0))) := by rw [hW13]; exact (setRow_other _ _ _ _ (by omega)).trans ((heap_alloc_old _ _ (by omega)).trans R9.out)
 have R10' : Hid (W13.heap[g10]? = some (.cells (fA yy) 95 (0, 0))) := by rw [hW13]; exact (setRow_other _ _ _ _ (by omega)).trans ((heap_alloc_old _ _ (by omega)).trans R10.out)
 have R11' : Hid (W13.heap[g11]? = some (.cells (fA e) 95 (0, 0))) := by rw [hW13]; exact (setRow_other _ _ _ _ (by omega)).trans ((heap_alloc_old _ _ (by omega)).trans R11.out)
 have R12' : Hid (W13.heap[g12]? = some (.cells (fA f) 95 (0, 0))) := by rw [hW13]; exact (setRow_other _ _ _ _ (by omega)).trans ((heap_alloc_old _ _ (by omega)).trans R12.out)
 have R13 : Hid (W13.heap[g13]? = some (.cells (fA h) 95 (0, 0))) := by rw [hW13, hg13]; exact setRow_heap _ _ _ _ _ _ (heap_alloc_new _ _)
 have BL' : Hid (Below w.heap.size w W13) := by rw [hW13]; exact below_setRow (BL.out.alloc BL.out.size _) BL.out.size _
 rw [put_none', ← hW13, ← hg13]
 clear hW13 hg13 BL RD RP RQ RZ R7 R8 R9 R10 R11 R12
 have RD := RD'
 have RP := RP'
 have RQ := RQ'
 have RZ := RZ'
 have R7 := R7'
 have R8 := R8'
 have R9 := R9'
 have R10 := R10'
 have R11 := R11'
 have R12 := R12'
 have BL := BL'
 clear RD' RP' RQ' RZ' R7' R8' R9' R10' R11' R12' BL'
 go_cut [14] from 44 to 54 (fun s wx => ∃ g, s = .pointer (some ⟨g, 0, none⟩) ∧ Hid (W13.heap.size ≤ g) ∧ Hid (wx.heap[g]? = some (.cells (fA (aP (mP p.x q.y) (mP q.x p.y))) 95 (0, 0))) ∧ Hid (Below W13.heap.size W13 wx))
 case first =>
  refine wp_region_held_drew (S := fun w' => w'.rangeAt (w.heap.size + 1) 0 (fL p.x) ∧ w'.rangeAt (w.heap.size + 2) 10 (fL q.y) ∧ w'.rangeAt (w.heap.size + 2) 0 (fL q.x) ∧ w'.rangeAt (w.heap.size + 1) 10 (fL p.y)) (by kernel_rfl) (by exact ⟨(rangeQ RP.out).1, (rangeQ RQ.out).2.1, (rangeQ RQ.out).1, (rangeQ RP.out).2.1⟩) (fun hHeld => ?_)
  obtain ⟨V10, hV10⟩ : ∃ V, V = W13.drew := ⟨_, rfl⟩
  rw [← hV10] at hHeld ⊢
  have KV10 : Hid (Below W13.heap.size W13 V10) := by rw [hV10]; exact (Below.refl _ _).drew
  clear hV10
  refine wpAnyH_take (i := 0) (oi := ⟨some 44, .fieldAddr 98 (.tmp 4) 0, 0, "point.go:17", #[], none⟩) (v := .pointer (some ⟨w.heap.size + 1, 0, none⟩)) rfl (by kernel_rfl) (by kernel_rfl) (by kernel_rfl) (fun _ _ _ h => h) (Or.inl ⟨by rfl, fun w _ => by go_simp⟩) hHeld ?_
  simp only [zaP, zsT, zsZ, zsS]
  refine wpAnyH_take (i := 1) (oi := ⟨some 45, .load 95 (.tmp 44), 95, "point.go:17", #[zeD 0], none⟩) (v := .agg (fA p.x)) rfl (by kernel_rfl) (by kernel_rfl) (by kernel_rfl) (fun _ _ _ h => h) (yldF (by rfl) _ rfl (w.heap.size + 1) 0 p.x rfl (fun w h => h.1)) hHeld ?_
  simp only [zaP, zsT, zsZ, zsS]
  refine wpAnyH_take (i := 2) (oi := ⟨some 46, .fieldAddr 98 (.tmp 5) 1, 0, "point.go:17", #[], none⟩) (v := .pointer (some ⟨w.heap.size + 2, 10, none⟩)) rfl (by kernel_rfl) (by kernel_rfl) (by kernel_rfl) (fun _ _ _ h => h) (Or.inl ⟨by rfl, fun w _ => by go_simp⟩) hHeld ?_
  simp only [zaP, zsT, zsZ, zsS]
  refine wpAnyH_take (i := 3) (oi := ⟨some 47, .load 95 (.tmp 46), 95, "point.go:17", #[zeD 2], none⟩) (v := .agg (fA q.y)) rfl (by kernel_rfl) (by kernel_rfl) (by kernel_rfl) (fun _ _ _ h => h) (yldF (by rfl) _ rfl (w.heap.size + 2) 10 q.y rfl (fun w h => h.2.1)) hHeld ?_
  simp only [zaP, zsT, zsZ, zsS]
  refine wpAnyH_take (i := 5) (oi := ⟨some 49, .fieldAddr 98 (.tmp 5) 0, 0, "point.go:17", #[], none⟩) (v := .pointer (some ⟨w.heap.size + 2, 0, none⟩)) rfl (by kernel_rfl) (by kernel_rfl) (by kernel_rfl) (fun _ _ _ h => h) (Or.inl ⟨by rfl, fun w _ => by go_simp⟩) hHeld ?_
  simp only [zaP, zsT, zsZ, zsS]
  refine wpAnyH_take (i := 6) (oi := ⟨some 50, .load 95 (.tmp 49), 95, "point.go:17", #[zeD 5], none⟩) (v := .agg (fA q.x)) rfl (by kernel_rfl) (by kernel_rfl) (by kernel_rfl) (fun _ _ _ h => h) (yldF (by rfl) _ rfl (w.heap.size + 2) 0 q.x rfl (fun w h => h.2.2.1)) hHeld ?_
  simp only [zaP, zsT, zsZ, zsS]
  refine wpAnyH_take (i := 7) (oi := ⟨some 51, .fieldAddr 98 (.tmp 4) 1, 0, "point.go:17", #[], none⟩) (v := .pointer (some ⟨w.heap.size + 1, 10, none⟩)) rfl (by kernel_rfl) (by kernel_rfl) (by kernel_rfl) (fun _ _ _ h => h) (Or.inl ⟨by rfl, fun w _ => by go_simp⟩) hHeld ?_
  simp only [zaP, zsT, zsZ, zsS]
  refine wpAnyH_take (i := 8) (oi := ⟨some 52, .load 95 (.tmp 51), 95, "point.go:17", #[zeD 7], none⟩) (v := .agg (fA p.y)) rfl (by kernel_rfl) (by kernel_rfl) (by kernel_rfl) (fun _ _ _ h => h) (yldF (by rfl) _ rfl (w.heap.size + 1) 10 p.y rfl (fun w h => h.2.2.2)) hHeld ?_
  simp only [zaP, zsT, zsZ, zsS]
  refine wpAnyH_ready (rs := [4, 11]) (by kernel_rfl) (by simp) ?_
  refine AllReadyH.cons (o := ⟨some 48, .call ⟨.value (.func 63), #[.tmp 45, .tmp 47], #[95, 95]⟩, 95, "point.go:17", #[zeD 1, zeD 3], none⟩) rfl (fun K hK => ?_) ?_
  ·
   refine step_callTo (by rfl) _ _ (hrunMul _ _ rfl (.agg (fA p.x)) (.agg (fA q.y)) rfl rfl V10) _ _ (mulA p.x q.y Hp.out.x Hq.out.y V10) (fun V11 HBx => ?_)
   have KV11 := kTr KV10 HBx
   clear HBx
   refine hK.out _ _ ?_ (fun hHeld => ?_)
   · exact ⟨kQx RP KV11, kQy RQ KV11, kQx RQ KV11, kQy RP KV11⟩
   clear hK K
   try simp only [zaP, zsT, zsZ, zsS]
   refine wpAnyH_ready (rs := [9, 11]) (by kernel_rfl) (by simp) ?_
   refine AllReadyH.cons (o := ⟨some 53, .call ⟨.value (.func 63), #[.tmp 50, .tmp 52], #[95, 95]⟩, 95, "point.go:17", #[zeD 6, zeD 8, zeC 4], none⟩) rfl (fun K hK => ?_) ?_
   ·
    refine step_callTo (by rfl) _ _ (hrunMul _ _ rfl (.agg (fA q.x)) (.agg (fA p.y)) rfl rfl V11) _ _ (mulA q.x p.y Hq.out.x Hp.out.y V11) (fun V12 HBx => ?_)
    have KV12 := kTr KV11 HBx
    clear HBx
    refine hK.out _ _ ?_ (fun hHeld => ?_)
    · exact ⟨kQx RP KV12, kQy RQ KV12, kQx RQ KV12, kQy RP KV12⟩
    clear hK K
    try simp only [zaP, zsT, zsZ, zsS]
    refine wpAnyH_ready (rs := [10, 11]) (by kernel_rfl) (by simp) ?_
    refine AllReadyH.cons (o := ⟨some 54, .call ⟨.value (.func 109), #[.tmp 48, .tmp 53], #[95, 95]⟩, 95, "point.go:17", #[zeD 4, zeD 9, zeC 9], none⟩) rfl (fun K hK => ?_) ?_
    ·
     refine step_callTo (by rfl) _ _ (hrunAdd _ _ rfl (.agg (fA (mP p.x q.y))) (.agg (fA (mP q.x p.y))) rfl rfl V12) _ _ (addA (mP p.x q.y) (mP q.x p.y) (mP_lt _ _) (mP_lt _ _) V12) (fun V13 HBx => ?_)
     have KV13 := kTr KV12 HBx
     clear HBx
     refine hK.out _ _ ?_ (fun hHeld => ?_)
     · exact ⟨kQx RP KV13, kQy RQ KV13, kQx RQ KV13, kQy RP KV13⟩
     clear hK K
     try simp only [zaP, zsT, zsZ, zsS]
     refine wpAnyH_ready (rs := [11]) (by kernel_rfl) (by simp) ?_
     refine AllReadyH.cons (o := oRefPlus18) rfl (fun K hK => ?_) ?_
     ·
      refine step_runTo (w' := V13.alloc (.cells (fA 0) 95)) (by rfl) (.pointer (some ⟨V13.heap.size, 0, none⟩)) (hrunAllocF rfl V13) ?_
      obtain ⟨g14, hg14⟩ : ∃ g, g = V13.heap.size := ⟨_, rfl⟩
      have ZN : Hid ((V13.alloc (.cells (fA 0) 95)).heap[g14]? = some (.cells (fA 0) 95 (0, 0))) := by rw [hg14]; exact heap_alloc_new _ _
      have KV14 := kAl KV13 (.cells (fA 0) 95)
      have GG : Hid (W13.heap.size ≤ g14) := by rw [hg14]; exact KV13.out.size
      rw [← hg14]
      obtain ⟨V14, hV14⟩ : ∃ V, V = V13.alloc (.cells (fA 0) 95) := ⟨_, rfl⟩
      rw [← hV14] at ZN KV14 ⊢
      clear hV14 hg14
      refine hK.out _ _ ?_ (fun hHeld => ?_)
      · exact ⟨kQx RP KV14, kQy RQ KV14, kQx RQ KV14, kQy RP KV14⟩
      clear hK K
      try simp only [zaP, zsT, zsZ, zsS]
      refine wpAnyH_ready (rs := [12]) (by kernel_rfl) (by simp) ?_
      refine AllReadyH.cons (o := oRefPlus19) rfl (fun K hK => ?_) ?_
      ·
       refine step_store_row _ (by rfl) 95 (.tmp 14) (.tmp 54) (by rfl) (g14) (fA (aP (mP p.x q.y) (mP q.x p.y))) (by rfl) (by rfl) 95 _ ZN.out (fA_size _) (fA_old _ _) (fA_all _) ?_
       rw [put_none']
       refine hK.out _ _ ?_ (fun hHeld => ?_)
       · exact ⟨range_set (kQx RP KV14) (Nat.ne_of_lt (Nat.lt_of_lt_of_le (lt_row RP.out) GG.out)), range_set (kQy RQ KV14) (Nat.ne_of_lt (Nat.lt_of_lt_of_le (lt_row RQ.out) GG.out)), range_set (kQx RQ KV14) (Nat.ne_of_lt (Nat.lt_of_lt_of_le (lt_row RQ.out) GG.out)), range_set (kQy RP KV14) (Nat.ne_of_lt (Nat.lt_of_lt_of_le (lt_row RP.out) GG.out))⟩
       clear hK K
       try simp only [zaP, zsT, zsZ, zsS]
       refine wpAnyH_done (by kernel_rfl) ?_ _
       go_wp2_with fail
       go_meet
       case rel => exact ⟨g14, rfl, GG, hide (setRow_heap _ _ _ _ _ _ ZN.out), hide (below_setRow KV14.out GG.out _)⟩
      exact AllReadyH.nil
     exact AllReadyH.nil
    refine AllReadyH.cons (o := oRefPlus18) rfl (fun K hK => ?_) ?_
    ·
     refine step_runTo (w' := V12.alloc (.cells (fA 0) 95)) (by rfl) (.pointer (some ⟨V12.heap.size, 0, none⟩)) (hrunAllocF rfl V12) ?_
     obtain ⟨g15, hg15⟩ : ∃ g, g = V12.heap.size := ⟨_, rfl⟩
     have ZN : Hid ((V12.alloc (.cells (fA 0) 95)).heap[g15]? = some (.cells (fA 0) 95 (0, 0))) := by rw [hg15]; exact heap_alloc_new _ _
     have KV15 := kAl KV12 (.cells (fA 0) 95)
     have GG : Hid (W13.heap.size ≤ g15) := by rw [hg15]; exact KV12.out.size
     rw [← hg15]
     obtain ⟨V15, hV15⟩ : ∃ V, V = V12.alloc (.cells (fA 0) 95) := ⟨_, rfl⟩
     rw [← hV15] at ZN KV15 ⊢
     clear hV15 hg15
     refine hK.out _ _ ?_ (fun hHeld => ?_)
     · exact ⟨kQx RP KV15, kQy RQ KV15, kQx RQ KV15, kQy RP KV15⟩
     clear hK K
     try simp only [zaP, zsT, zsZ, zsS]
     refine wpAnyH_ready (rs := [10]) (by kernel_rfl) (by simp) ?_
     refine AllReadyH.cons (o := ⟨some 54, .call ⟨.value (.func 109), #[.tmp 48, .tmp 53], #[95, 95]⟩, 95, "point.go:17", #[zeD 4, zeD 9, zeC 9], none⟩) rfl (fun K hK => ?_) ?_
     ·
      refine step_callTo (by rfl) _ _ (hrunAdd _ _ rfl (.agg (fA (mP p.x q.y))) (.agg (fA (mP q.x p.y))) rfl rfl V15) _ _ (addA (mP p.x q.y) (mP q.x p.y) (mP_lt _ _) (mP_lt _ _) V15) (fun V16 HBx => ?_)
      have KV16 := kTr KV15 HBx
      have ZN := hide (row_keep' ZN.out HBx)
      clear HBx
      refine hK.out _ _ ?_ (fun hHeld => ?_)
      · exact ⟨kQx RP KV16, kQy RQ KV16, kQx RQ KV16, kQy RP KV16⟩
      clear hK K
      try simp only [zaP, zsT, zsZ, zsS]
      refine wpAnyH_ready (rs := [12]) (by kernel_rfl) (by simp) ?_
      refine AllReadyH.cons (o := oRefPlus19) rfl (fun K hK => ?_) ?_
      ·
       refine step_store_row _ (by rfl) 95 (.tmp 14) (.tmp 54) (by rfl) (g15) (fA (aP (mP p.x q.y) (mP q.x p.y))) (by rfl) (by rfl) 95 _ ZN.out (fA_size _) (fA_old _ _) (fA_all _) ?_
       rw [put_none']
       refine hK.out _ _ ?_ (fun hHeld => ?_)
       · exact ⟨range_set (kQx RP KV16) (Nat.ne_of_lt (Nat.lt_of_lt_of_le (lt_row RP.out) GG.out)), range_set (kQy RQ KV16) (Nat.ne_of_lt (Nat.lt_of_lt_of_le (lt_row RQ.out) GG.out)), range_set (kQx RQ KV16) (Nat.ne_of_lt (Nat.lt_of_lt_of_le (lt_row RQ.out) GG.out)), range_set (kQy RP KV16) (Nat.ne_of_lt (Nat.lt_of_lt_of_le (lt_row RP.out) GG.out))⟩
       clear hK K
       try simp only [zaP, zsT, zsZ, zsS]
       refine wpAnyH_done (by kernel_rfl) ?_ _
       go_wp2_with fail
       go_meet
       case rel => exact ⟨g15, rfl, GG, hide (setRow_heap _ _ _ _ _ _ ZN.out), hide (below_setRow KV16.out GG.out _)⟩
      exact AllReadyH.nil
     exact AllReadyH.nil
    exact AllReadyH.nil
   refine AllReadyH.cons (o := oRefPlus18) rfl (fun K hK => ?_) ?_
   ·
    refine step_runTo (w' := V11.alloc (.cells (fA 0) 95)) (by rfl) (.pointer (some ⟨V11.heap.size, 0, none⟩)) (hrunAllocF rfl V11) ?_
    obtain ⟨g17, hg17⟩ : ∃ g, g = V11.heap.size := ⟨_, rfl⟩
    have ZN : Hid ((V11.alloc (.cells (fA 0) 95)).heap[g17]? = some (.cells (fA 0) 95 (0, 0))) := by rw [hg17]; exact heap_alloc_new _ _
    have KV17 := kAl KV11 (.cells (fA 0) 95)
    have GG : Hid (W13.heap.size ≤ g17) := by rw [hg17]; exact KV11.out.size
    rw [← hg17]
    obtain ⟨V17, hV17⟩ : ∃ V, V = V11.alloc (.cells (fA 0) 95) := ⟨_, rfl⟩
    rw [← hV17] at ZN KV17 ⊢
    clear hV17 hg17
    refine hK.out _ _ ?_ (fun hHeld => ?_)
    · exact ⟨kQx RP KV17, kQy RQ KV17, kQx RQ KV17, kQy RP KV17⟩
    clear hK K
    try simp only [zaP, zsT, zsZ, zsS]
    refine wpAnyH_ready (rs := [9]) (by kernel_rfl) (by simp) ?_
    refine AllReadyH.cons (o := ⟨some 53, .call ⟨.value (.func 63), #[.tmp 50, .tmp 52], #[95, 95]⟩, 95, "point.go:17", #[zeD 6, zeD 8, zeC 4], none⟩) rfl (fun K hK => ?_) ?_
    ·
     refine step_callTo (by rfl) _ _ (hrunMul _ _ rfl (.agg (fA q.x)) (.agg (fA p.y)) rfl rfl V17) _ _ (mulA q.x p.y Hq.out.x Hp.out.y V17) (fun V18 HBx => ?_)
     have KV18 := kTr KV17 HBx
     have ZN := hide (row_keep' ZN.out HBx)
     clear HBx
     refine hK.out _ _ ?_ (fun hHeld => ?_)
     · exact ⟨kQx RP KV18, kQy RQ KV18, kQx RQ KV18, kQy RP KV18⟩
     clear hK K
     try simp only [zaP, zsT, zsZ, zsS]
     refine wpAnyH_ready (rs := [10]) (by kernel_rfl) (by simp) ?_
     refine AllReadyH.cons (o := ⟨some 54, .call ⟨.value (.func 109), #[.tmp 48, .tmp 53], #[95, 95]⟩, 95, "point.go:17", #[zeD 4, zeD 9, zeC 9], none⟩) rfl (fun K hK => ?_) ?_
     ·
      refine step_callTo (by rfl) _ _ (hrunAdd _ _ rfl (.agg (fA (mP p.x q.y))) (.agg (fA (mP q.x p.y))) rfl rfl V18) _ _ (addA (mP p.x q.y) (mP q.x p.y) (mP_lt _ _) (mP_lt _ _) V18) (fun V19 HBx => ?_)
      have KV19 := kTr KV18 HBx
      have ZN := hide (row_keep' ZN.out HBx)
      clear HBx
      refine hK.out _ _ ?_ (fun hHeld => ?_)
      · exact ⟨kQx RP KV19, kQy RQ KV19, kQx RQ KV19, kQy RP KV19⟩
      clear hK K
      try simp only [zaP, zsT, zsZ, zsS]
      refine wpAnyH_ready (rs := [12]) (by kernel_rfl) (by simp) ?_
      refine AllReadyH.cons (o := oRefPlus19) rfl (fun K hK => ?_) ?_
      ·
       refine step_store_row _ (by rfl) 95 (.tmp 14) (.tmp 54) (by rfl) (g17) (fA (aP (mP p.x q.y) (mP q.x p.y))) (by rfl) (by rfl) 95 _ ZN.out (fA_size _) (fA_old _ _) (fA_all _) ?_
       rw [put_none']
       refine hK.out _ _ ?_ (fun hHeld => ?_)
       · exact ⟨range_set (kQx RP KV19) (Nat.ne_of_lt (Nat.lt_of_lt_of_le (lt_row RP.out) GG.out)), range_set (kQy RQ KV19) (Nat.ne_of_lt (Nat.lt_of_lt_of_le (lt_row RQ.out) GG.out)), range_set (kQx RQ KV19) (Nat.ne_of_lt (Nat.lt_of_lt_of_le (lt_row RQ.out) GG.out)), range_set (kQy RP KV19) (Nat.ne_of_lt (Nat.lt_of_lt_of_le (lt_row RP.out) GG.out))⟩
       clear hK K
       try simp only [zaP, zsT, zsZ, zsS]
       refine wpAnyH_done (by kernel_rfl) ?_ _
       go_wp2_with fail
       go_meet
       case rel => exact ⟨g17, rfl, GG, hide (setRow_heap _ _ _ _ _ _ ZN.out), hide (below_setRow KV19.out GG.out _)⟩
      exact AllReadyH.nil
     exact AllReadyH.nil
    exact AllReadyH.nil
   exact AllReadyH.nil
  refine AllReadyH.cons (o := oRefPlus18) rfl (fun K hK => ?_) ?_
  ·
   refine step_runTo (w' := V10.alloc (.cells (fA 0) 95)) (by rfl) (.pointer (some ⟨V10.heap.size, 0, none⟩)) (hrunAllocF rfl V10) ?_
   obtain ⟨g20, hg20⟩ : ∃ g, g = V10.heap.size := ⟨_, rfl⟩
   have ZN : Hid ((V10.alloc (.cells (fA 0) 95)).heap[g20]? = some (.cells (fA 0) 95 (0, 0))) := by rw [hg20]; exact heap_alloc_new _ _
   have KV20 := kAl KV10 (.cells (fA 0) 95)
   have GG : Hid (W13.heap.size ≤ g20) := by rw [hg20]; exact KV10.out.size
   rw [← hg20]
   obtain ⟨V20, hV20⟩ : ∃ V, V = V10.alloc (.cells (fA 0) 95) := ⟨_, rfl⟩
   rw [← hV20] at ZN KV20 ⊢
   clear hV20 hg20
   refine hK.out _ _ ?_ (fun hHeld => ?_)
   · exact ⟨kQx RP KV20, kQy RQ KV20, kQx RQ KV20, kQy RP KV20⟩
   clear hK K
   try simp only [zaP, zsT, zsZ, zsS]
   refine wpAnyH_ready (rs := [4]) (by kernel_rfl) (by simp) ?_
   refine AllReadyH.cons (o := ⟨some 48, .call ⟨.value (.func 63), #[.tmp 45, .tmp 47], #[95, 95]⟩, 95, "point.go:17", #[zeD 1, zeD 3], none⟩) rfl (fun K hK => ?_) ?_
   ·
    refine step_callTo (by rfl) _ _ (hrunMul _ _ rfl (.agg (fA p.x)) (.agg (fA q.y)) rfl rfl V20) _ _ (mulA p.x q.y Hp.out.x Hq.out.y V20) (fun V21 HBx => ?_)
    have KV21 := kTr KV20 HBx
    have ZN := hide (row_keep' ZN.out HBx)
    clear HBx
    refine hK.out _ _ ?_ (fun hHeld => ?_)
    · exact ⟨kQx RP KV21, kQy RQ KV21, kQx RQ KV21, kQy RP KV21⟩
    clear hK K
    try simp only [zaP, zsT, zsZ, zsS]
    refine wpAnyH_ready (rs := [9]) (by kernel_rfl) (by simp) ?_
    refine AllReadyH.cons (o := ⟨some 53, .call ⟨.value (.func 63), #[.tmp 50, .tmp 52], #[95, 95]⟩, 95, "point.go:17", #[zeD 6, zeD 8, zeC 4], none⟩) rfl (fun K hK => ?_) ?_
    ·
     refine step_callTo (by rfl) _ _ (hrunMul _ _ rfl (.agg (fA q.x)) (.agg (fA p.y)) rfl rfl V21) _ _ (mulA q.x p.y Hq.out.x Hp.out.y V21) (fun V22 HBx => ?_)
     have KV22 := kTr KV21 HBx
     have ZN := hide (row_keep' ZN.out HBx)
     clear HBx
     refine hK.out _ _ ?_ (fun hHeld => ?_)
     · exact ⟨kQx RP KV22, kQy RQ KV22, kQx RQ KV22, kQy RP KV22⟩
     clear hK K
     try simp only [zaP, zsT, zsZ, zsS]
     refine wpAnyH_ready (rs := [10]) (by kernel_rfl) (by simp) ?_
     refine AllReadyH.cons (o := ⟨some 54, .call ⟨.value (.func 109), #[.tmp 48, .tmp 53], #[95, 95]⟩, 95, "point.go:17", #[zeD 4, zeD 9, zeC 9], none⟩) rfl (fun K hK => ?_) ?_
     ·
      refine step_callTo (by rfl) _ _ (hrunAdd _ _ rfl (.agg (fA (mP p.x q.y))) (.agg (fA (mP q.x p.y))) rfl rfl V22) _ _ (addA (mP p.x q.y) (mP q.x p.y) (mP_lt _ _) (mP_lt _ _) V22) (fun V23 HBx => ?_)
      have KV23 := kTr KV22 HBx
      have ZN := hide (row_keep' ZN.out HBx)
      clear HBx
      refine hK.out _ _ ?_ (fun hHeld => ?_)
      · exact ⟨kQx RP KV23, kQy RQ KV23, kQx RQ KV23, kQy RP KV23⟩
      clear hK K
      try simp only [zaP, zsT, zsZ, zsS]
      refine wpAnyH_ready (rs := [12]) (by kernel_rfl) (by simp) ?_
      refine AllReadyH.cons (o := oRefPlus19) rfl (fun K hK => ?_) ?_
      ·
       refine step_store_row _ (by rfl) 95 (.tmp 14) (.tmp 54) (by rfl) (g20) (fA (aP (mP p.x q.y) (mP q.x p.y))) (by rfl) (by rfl) 95 _ ZN.out (fA_size _) (fA_old _ _) (fA_all _) ?_
       rw [put_none']
       refine hK.out _ _ ?_ (fun hHeld => ?_)
       · exact ⟨range_set (kQx RP KV23) (Nat.ne_of_lt (Nat.lt_of_lt_of_le (lt_row RP.out) GG.out)), range_set (kQy RQ KV23) (Nat.ne_of_lt (Nat.lt_of_lt_of_le (lt_row RQ.out) GG.out)), range_set (kQx RQ KV23) (Nat.ne_of_lt (Nat.lt_of_lt_of_le (lt_row RQ.out) GG.out)), range_set (kQy RP KV23) (Nat.ne_of_lt (Nat.lt_of_lt_of_le (lt_row RP.out) GG.out))⟩
       clear hK K
       try simp only [zaP, zsT, zsZ, zsS]
       refine wpAnyH_done (by kernel_rfl) ?_ _
       go_wp2_with fail
       go_meet
       case rel => exact ⟨g20, rfl, GG, hide (setRow_heap _ _ _ _ _ _ ZN.out), hide (below_setRow KV23.out GG.out _)⟩
      exact AllReadyH.nil
     exact AllReadyH.nil
    exact AllReadyH.nil
   exact AllReadyH.nil
  exact AllReadyH.nil
 case rest =>
 obtain ⟨g14, rfl, Gg14, R14, Xg14⟩ := hcut
 obtain ⟨W14, hW⟩ : ∃ W, W = wc := ⟨_, rfl⟩
 subst hW
 have lRDg14 : w.heap.size < g14 := Nat.lt_of_lt_of_le (lt_row RD.out) Gg14.out
 have lRPg14 : w.heap.size + 1 < g14 := Nat.lt_of_lt_of_le (lt_row RP.out) Gg14.out
 have lRQg14 : w.heap.size + 2 < g14 := Nat.lt_of_lt_of_le (lt_row RQ.out) Gg14.out
 have lRZg14 : w.heap.size + 3 < g14 := Nat.lt_of_lt_of_le (lt_row RZ.out) Gg14.out
 have lR7g14 : g7 < g14 := Nat.lt_of_lt_of_le (lt_row R7.out) Gg14.out
 have lR8g14 : g8 < g14 := Nat.lt_of_lt_of_le (lt_row R8.out) Gg14.out
 have lR9g14 : g9 < g14 := Nat.lt_of_lt_of_le (lt_row R9.out) Gg14.out
 have lR10g14 : g10 < g14 := Nat.lt_of_lt_of_le (lt_row R10.out) Gg14.out
 have lR11g14 : g11 < g14 := Nat.lt_of_lt_of_le (lt_row R11.out) Gg14.out
 have lR12g14 : g12 < g14 := Nat.lt_of_lt_of_le (lt_row R12.out) Gg14.out
 have lR13g14 : g13 < g14 := Nat.lt_of_lt_of_le (lt_row R13.out) Gg14.out
 have RD := hide (row_below RD.out Xg14.out (lt_row RD.out))
 have RP := hide (row_below RP.out Xg14.out (lt_row RP.out))
 have RQ := hide (row_below RQ.out Xg14.out (lt_row RQ.out))
 have RZ := hide (row_below RZ.out Xg14.out (lt_row RZ.out))
 have R7 := hide (row_below R7.out Xg14.out (lt_row R7.out))
 have R8 := hide (row_below R8.out Xg14.out (lt_row R8.out))
 have R9 := hide (row_below R9.out Xg14.out (lt_row R9.out))
 have R10 := hide (row_below R10.out Xg14.out (lt_row R10.out))
 have R11 := hide (row_below R11.out Xg14.out (lt_row R11.out))
 have R12 := hide (row_below R12.out Xg14.out (lt_row R12.out))
 have R13 := hide (row_below R13.out Xg14.out (lt_row R13.out))
 have BL : Hid (Below w.heap.size w W14) := BL.out.trans (Xg14.out.mono BL.out.size)
 clear Xg14 Gg14
 obtain ⟨c, Ec⟩ : ∃ x, Hid (x = aP (mP p.x q.y) (mP q.x p.y)) := ⟨_, rfl⟩
 have Hc : Hid (c < P) := by rw [Ec.out]; exact aP_lt _ _
 rw [← Ec.out] at R14
 go_wp2_with fail
 refine wp_region_held_drew (S := fun w' => w'.rangeAt (g7) 0 (fL z) ∧ w'.rangeAt (g12) 0 (fL f) ∧ w'.rangeAt (g14) 0 (fL c) ∧ w'.rangeAt (g13) 0 (fL h) ∧ w'.rangeAt (g10) 0 (fL yy) ∧ w'.rangeAt (g9) 0 (fL xx)) (by kernel_rfl) (by exact ⟨rangeL R7.out, rangeL R12.out, rangeL R14.out, rangeL R13.out, rangeL R10.out, rangeL R9.out⟩) (fun hHeld => ?_)
 obtain ⟨V24, hV24⟩ : ∃ V, V = W14.drew := ⟨_, rfl⟩
 rw [← hV24] at hHeld ⊢
 have KV24 : Hid (Below W14.heap.size W14 V24) := by rw [hV24]; exact (Below.refl _ _).drew
 clear hV24
 refine wpAnyH_take (i := 0) (oi := ⟨some 55, .load 95 (.tmp 7), 95, "point.go:18", #[], none⟩) (v := .agg (fA z)) rfl (by kernel_rfl) (by kernel_rfl) (by kernel_rfl) (fun _ _ _ h => h) (yldF (by rfl) _ rfl (g7) 0 z rfl (fun w h => h.1)) hHeld ?_
 simp only [zaP, zsT, zsZ, zsS]
 refine wpAnyH_take (i := 1) (oi := ⟨some 56, .load 95 (.tmp 12), 95, "point.go:18", #[], none⟩) (v := .agg (fA f)) rfl (by kernel_rfl) (by kernel_rfl) (by kernel_rfl) (fun _ _ _ h => h) (yldF (by rfl) _ rfl (g12) 0 f rfl (fun w h => h.2.1)) hHeld ?_
 simp only [zaP, zsT, zsZ, zsS]
 refine wpAnyH_take (i := 2) (oi := ⟨some 57, .load 95 (.tmp 14), 95, "point.go:18", #[], none⟩) (v := .agg (fA c)) rfl (by kernel_rfl) (by kernel_rfl) (by kernel_rfl) (fun _ _ _ h => h) (yldF (by rfl) _ rfl (g14) 0 c rfl (fun w h => h.2.2.1)) hHeld ?_
 simp only [zaP, zsT, zsZ, zsS]
 refine wpAnyH_take (i := 5) (oi := ⟨some 60, .load 95 (.tmp 7), 95, "point.go:18", #[], none⟩) (v := .agg (fA z)) rfl (by kernel_rfl) (by kernel_rfl) (by kernel_rfl) (fun _ _ _ h => h) (yldF (by rfl) _ rfl (g7) 0 z rfl (fun w h => h.1)) hHeld ?_
 simp only [zaP, zsT, zsZ, zsS]
 refine wpAnyH_take (i := 6) (oi := ⟨some 61, .load 95 (.tmp 13), 95, "point.go:18", #[], none⟩) (v := .agg (fA h)) rfl (by kernel_rfl) (by kernel_rfl) (by kernel_rfl) (fun _ _ _ h => h) (yldF (by rfl) _ rfl (g13) 0 h rfl (fun w h => h.2.2.2.1)) hHeld ?_
 simp only [zaP, zsT, zsZ, zsS]
 refine wpAnyH_take (i := 7) (oi := ⟨some 62, .load 95 (.tmp 10), 95, "point.go:18", #[], none⟩) (v := .agg (fA yy)) rfl (by kernel_rfl) (by kernel_rfl) (by kernel_rfl) (fun _ _ _ h => h) (yldF (by rfl) _ rfl (g10) 0 yy rfl (fun w h => h.2.2.2.2.1)) hHeld ?_
 simp only [zaP, zsT, zsZ, zsS]
 refine wpAnyH_take (i := 8) (oi := ⟨some 63, .load 95 (.tmp 9), 95, "point.go:18", #[], none⟩) (v := .agg (fA xx)) rfl (by kernel_rfl) (by kernel_rfl) (by kernel_rfl) (fun _ _ _ h => h) (yldF (by rfl) _ rfl (g9) 0 xx rfl (fun w h => h.2.2.2.2.2)) hHeld ?_
 simp only [zaP, zsT, zsZ, zsS]
 refine wpAnyH_take (i := 12) (oi := ⟨some 67, .load 95 (.tmp 12), 95, "point.go:18", #[], none⟩) (v := .agg (fA f)) rfl (by kernel_rfl) (by kernel_rfl) (by kernel_rfl) (fun _ _ _ h => h) (yldF (by rfl) _ rfl (g12) 0 f rfl (fun w h => h.2.1)) hHeld ?_
 simp only [zaP, zsT, zsZ, zsS]
 refine wpAnyH_take (i := 13) (oi := ⟨some 68, .load 95 (.tmp 13), 95, "point.go:18", #[], none⟩) (v := .agg (fA h)) rfl (by kernel_rfl) (by kernel_rfl) (by kernel_rfl) (fun _ _ _ h => h) (yldF (by rfl) _ rfl (g13) 0 h rfl (fun w h => h.2.2.2.1)) hHeld ?_
 simp only [zaP, zsT, zsZ, zsS]
 refine wpAnyH_ready (rs := [3]) (by kernel_rfl) (by simp) ?_
 refine AllReadyH.cons (o := ⟨some 58, .call ⟨.value (.func 63), #[.tmp 56, .tmp 57], #[95, 95]⟩, 95, "point.go:18", #[zeD 1, zeD 2], none⟩) rfl (fun K hK => ?_) ?_
 ·
  refine step_callTo (by rfl) _ _ (hrunMul _ _ rfl (.agg (fA f)) (.agg (fA c)) rfl rfl V24) _ _ (mulA f c Hf.out Hc.out V24) (fun V25 HBx => ?_)
  have KV25 := kTr KV24 HBx
  clear HBx
  refine hK.out _ _ ?_ (fun hHeld => ?_)
  · exact ⟨kLm R7 KV25, kLm R12 KV25, kLm R14 KV25, kLm R13 KV25, kLm R10 KV25, kLm R9 KV25⟩
  clear hK K
  try simp only [zaP, zsT, zsZ, zsS]
  refine wpAnyH_ready (rs := [4]) (by kernel_rfl) (by simp) ?_
  refine AllReadyH.cons (o := ⟨some 59, .call ⟨.value (.func 63), #[.tmp 55, .tmp 58], #[95, 95]⟩, 95, "point.go:18", #[zeD 0, zeD 3, zeC 3], none⟩) rfl (fun K hK => ?_) ?_
  ·
   refine step_callTo (by rfl) _ _ (hrunMul _ _ rfl (.agg (fA z)) (.agg (fA (mP f c))) rfl rfl V25) _ _ (mulA z (mP f c) Hz.out (mP_lt _ _) V25) (fun V26 HBx => ?_)
   have KV26 := kTr KV25 HBx
   clear HBx
   refine hK.out _ _ ?_ (fun hHeld => ?_)
   · exact ⟨kLm R7 KV26, kLm R12 KV26, kLm R14 KV26, kLm R13 KV26, kLm R10 KV26, kLm R9 KV26⟩
   clear hK K
   try simp only [zaP, zsT, zsZ, zsS]
   refine wpAnyH_ready (rs := [9]) (by kernel_rfl) (by simp) ?_
   refine AllReadyH.cons (o := ⟨some 64, .call ⟨.value (.func 109), #[.tmp 62, .tmp 63], #[95, 95]⟩, 95, "point.go:18", #[zeD 7, zeD 8, zeC 4], none⟩) rfl (fun K hK => ?_) ?_
   ·
    refine step_callTo (by rfl) _ _ (hrunAdd _ _ rfl (.agg (fA yy)) (.agg (fA xx)) rfl rfl V26) _ _ (addA yy xx Hyy.out Hxx.out V26) (fun V27 HBx => ?_)
    have KV27 := kTr KV26 HBx
    clear HBx
    refine hK.out _ _ ?_ (fun hHeld => ?_)
    · exact ⟨kLm R7 KV27, kLm R12 KV27, kLm R14 KV27, kLm R13 KV27, kLm R10 KV27, kLm R9 KV27⟩
    clear hK K
    try simp only [zaP, zsT, zsZ, zsS]
    refine wpAnyH_ready (rs := [10]) (by kernel_rfl) (by simp) ?_
    refine AllReadyH.cons (o := ⟨some 65, .call ⟨.value (.func 63), #[.tmp 61, .tmp 64], #[95, 95]⟩, 95, "point.go:18", #[zeD 6, zeD 9, zeC 9], none⟩) rfl (fun K hK => ?_) ?_
    ·
     refine step_callTo (by rfl) _ _ (hrunMul _ _ rfl (.agg (fA h)) (.agg (fA (aP yy xx))) rfl rfl V27) _ _ (mulA h (aP yy xx) Hh.out (aP_lt _ _) V27) (fun V28 HBx => ?_)
     have KV28 := kTr KV27 HBx
     clear HBx
     refine hK.out _ _ ?_ (fun hHeld => ?_)
     · exact ⟨kLm R7 KV28, kLm R12 KV28, kLm R14 KV28, kLm R13 KV28, kLm R10 KV28, kLm R9 KV28⟩
     clear hK K
     try simp only [zaP, zsT, zsZ, zsS]
     refine wpAnyH_ready (rs := [11]) (by kernel_rfl) (by simp) ?_
     refine AllReadyH.cons (o := ⟨some 66, .call ⟨.value (.func 63), #[.tmp 60, .tmp 65], #[95, 95]⟩, 95, "point.go:18", #[zeD 5, zeD 10, zeC 10], none⟩) rfl (fun K hK => ?_) ?_
     ·
      refine step_callTo (by rfl) _ _ (hrunMul _ _ rfl (.agg (fA z)) (.agg (fA (mP h (aP yy xx)))) rfl rfl V28) _ _ (mulA z (mP h (aP yy xx)) Hz.out (mP_lt _ _) V28) (fun V29 HBx => ?_)
      have KV29 := kTr KV28 HBx
      clear HBx
      refine hK.out _ _ ?_ (fun hHeld => ?_)
      · exact ⟨kLm R7 KV29, kLm R12 KV29, kLm R14 KV29, kLm R13 KV29, kLm R10 KV29, kLm R9 KV29⟩
      clear hK K
      try simp only [zaP, zsT, zsZ, zsS]
      refine wpAnyH_ready (rs := [14]) (by kernel_rfl) (by simp) ?_
      refine AllReadyH.cons (o := ⟨some 69, .call ⟨.value (.func 63), #[.tmp 67, .tmp 68], #[95, 95]⟩, 95, "point.go:18", #[zeD 12, zeD 13, zeC 11], none⟩) rfl (fun K hK => ?_) ?_
      ·
       refine step_callTo (by rfl) _ _ (hrunMul _ _ rfl (.agg (fA f)) (.agg (fA h)) rfl rfl V29) _ _ (mulA f h Hf.out Hh.out V29) (fun V30 HBx => ?_)
       have KV30 := kTr KV29 HBx
       clear HBx
       refine hK.out _ _ ?_ (fun hHeld => ?_)
       · exact ⟨kLm R7 KV30, kLm R12 KV30, kLm R14 KV30, kLm R13 KV30, kLm R10 KV30, kLm R9 KV30⟩
       clear hK K
       try simp only [zaP, zsT, zsZ, zsS]
       refine wpAnyH_take (i := 15) (oi := ⟨some 70, .build 98 #[(0, .tmp 59), (1, .tmp 66), (2, .tmp 69)], 98, "point.go:18", #[zeD 4, zeD 11, zeD 14], none⟩) (v := .agg (qA ⟨(mP z (mP f c)), (mP z (mP h (aP yy xx))), (mP f h)⟩)) rfl (by kernel_rfl) (by kernel_rfl) (by kernel_rfl) (fun _ _ _ h => h) (yld_build' (by rfl) _ _ rfl _ _ (by kernel_rfl) (builtQ (mP z (mP f c)) (mP z (mP h (aP yy xx))) (mP f h))) hHeld ?_
       simp only [zaP, zsT, zsZ, zsS]
       refine wpAnyH_ready (rs := [16]) (by kernel_rfl) (by simp) ?_
       refine AllReadyH.cons (o := ⟨none, .store 98 (.tmp 6) (.tmp 70), 0, "point.go:18", #[zeD 15, zeC 14, zeP 0, zeP 1, zeP 2, zeP 3, zeP 4, zeP 5, zeP 6, zeP 7, zeP 8, zeP 9, zeP 10, zeP 11, zeP 12, zeP 13, zeP 14, zeP 15], none⟩) rfl (fun K hK => ?_) ?_
       ·
        refine step_store_row _ (by rfl) 98 (.tmp 6) (.tmp 70) (by rfl) (w.heap.size + 3) (qA ⟨(mP z (mP f c)), (mP z (mP h (aP yy xx))), (mP f h)⟩) (by rfl) (by rfl) 98 _ (hide (row_below RZ.out KV30.out (lt_row RZ.out))).out (qA_size _) (qA_old _ _) (qA_all _) ?_
        rw [put_none']
        refine hK.out _ _ ?_ (fun hHeld => ?_)
        · exact ⟨range_set (kLm R7 KV30) (by omega), range_set (kLm R12 KV30) (by omega), range_set (kLm R14 KV30) (by omega), range_set (kLm R13 KV30) (by omega), range_set (kLm R10 KV30) (by omega), range_set (kLm R9 KV30) (by omega)⟩
        clear hK K
        try simp only [zaP, zsT, zsZ, zsS]
        refine wpAnyH_done (by kernel_rfl) ?_ _
        go_wp2_with fail
        have RZ9 := hide (row_below RZ.out KV30.out (lt_row RZ.out))
        have BL9 := hide (BL.out.trans (KV30.out.mono BL.out.size))
        refine bodyPost_ret (v := .agg (qA ⟨(mP z (mP f c)), (mP z (mP h (aP yy xx))), (mP f h)⟩)) (results_cell_row Tryz.results67 _ _ (w.heap.size + 3) 98 _ (0, 0) _ (by rfl) (setRow_heap _ _ _ _ _ _ RZ9.out) Tryz.underlying98 rfl (qA_size _)) rfl ⟨?_, below_setRow BL9.out (by omega) _⟩
        rw [Ec.out, Eh.out, Ef.out, Ee.out, Eyy.out, Exx.out, Ezz.out, Ez.out]; rfl
       exact AllReadyH.nil
      exact AllReadyH.nil
     exact AllReadyH.nil
    exact AllReadyH.nil
   exact AllReadyH.nil
  exact AllReadyH.nil
 exact AllReadyH.nil
end
end Go.Proofs.YtccgfabojbjmjaaGreatDoor
