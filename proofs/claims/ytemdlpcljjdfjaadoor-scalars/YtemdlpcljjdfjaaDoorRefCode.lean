import Derived.Test.YtemdlpcljjdfjaaDoorRefPlus
import Derived.Test.YtemdlpcljjdfjaaDoorMan3
/- The document's answer: Code, Add (gencode.py). -/
namespace Go.Proofs.YtemdlpcljjdfjaaDoor
open Go.RowKit
theorem fc0' (r : Nat) : (fd r).getD 0 0 = ((r % 67108864 : Nat) : Int) := by rw [fd_get r 0 (by decide), Nat.pow_zero, Nat.div_one]
/-- The text of a point of the document. -/
def codeD (p : Q3) : ByteArray := strOf (leB (codeN (mP p.y (invD p.z)) (decide (mP p.x (invD p.z) % 2 = 1))) 32)
section
attribute [local irreducible] fA fL qA
set_option maxRecDepth 100000 in
set_option maxHeartbeats 4000000 in
theorem codeA (p : Q3) (hp : p.Ok) (w : World) :
    Calls Tryd.prog 35 #[.agg (qA p)] w fun e w' => e = .returned (.string (codeD p)) ∧ Below w.heap.size w w' := by
  have hz := zeroFA
  have Hp := hide hp
  clear hp
  go_enter Tryd.func35, Tryd.ntmps35
  go_upto_region 1 with fail
  obtain ⟨W0, hW0⟩ : ∃ W, W = w.alloc (.cells (qA p) 79) := ⟨_, rfl⟩
  have RP : Hid (W0.heap[w.heap.size]? = some (.cells (qA p) 79 (0, 0))) := by rw [hW0]; exact heap_alloc_new _ _
  have BL : Hid (Below w.heap.size w W0) := by rw [hW0]; show Below _ _ _; go_grown
  rw [← hW0]
  clear hW0
  go_wp2_with (first | (refine wpList_load_mid (by rfl) 76 (.tmp 6) (by rfl) (w.heap.size) 20 (by rfl) (fL p.z) _ (rangeQ RP.out).2.2 underF rfl (fL_size _) ?_))
  simp only [foldL]
  refine (inverseA p.z Hp.out.z _).mono ?_
  rintro e W1 ⟨rfl, hB1⟩
  have RP := hide (row_keep' RP.out hB1)
  have BL : Hid (Below w.heap.size w W1) := BL.out.trans (hB1.mono BL.out.size)
  clear hB1
  obtain ⟨i, Ei⟩ : ∃ x, Hid (x = invD p.z) := ⟨_, rfl⟩
  have Hi : Hid (i < P) := by rw [Ei.out]; exact invD_lt _
  rw [← Ei.out]
  go_upto_region 2 with (first | (refine wpList_store_row (by rfl) 76 (.tmp 3) (.tmp 8) (by rfl) W1.heap.size (fA i) (by rfl) (by rfl) 76 _ (heap_alloc_new _ _) (fA_size _) (fA_old _ _) (fA_all _) ?_))
  obtain ⟨g3, hg3⟩ : ∃ q, q = W1.heap.size := ⟨_, rfl⟩
  obtain ⟨W2, hW2⟩ : ∃ W, W = (W1.alloc (.cells (fA 0) 76)).setRow W1.heap.size (fA i) := ⟨_, rfl⟩
  have lRPg3 : w.heap.size < g3 := by rw [hg3]; exact lt_row RP.out
  have RP' : Hid (W2.heap[w.heap.size]? = some (.cells (qA p) 79 (0, 0))) := by rw [hW2]; exact (setRow_other _ _ _ _ (by omega)).trans ((heap_alloc_old _ _ (by omega)).trans RP.out)
  have RI : Hid (W2.heap[g3]? = some (.cells (fA i) 76 (0, 0))) := by rw [hW2, hg3]; exact setRow_heap _ _ _ _ _ _ (heap_alloc_new _ _)
  have BL' : Hid (Below w.heap.size w W2) := by rw [hW2]; exact below_setRow (BL.out.alloc BL.out.size _) BL.out.size _
  rw [← hW2, ← hg3]
  clear hW2 hg3 BL RP
  have RP := RP'
  have BL := BL'
  clear RP' BL'
  go_wp2_with (first | (refine wpList_load_mid (by rfl) 76 (.tmp 9) (by rfl) (w.heap.size) 0 (by rfl) (fL p.x) _ (rangeQ RP.out).1 underF rfl (fL_size _) ?_) | (refine wpList_load_row (by rfl) 76 (.tmp 3) (by rfl) (g3) (by rfl) 76 (fA i) (0, 0) _ RI.out underF rfl (fA_size _) ?_))
  simp only [foldL]
  refine (mulA p.x i Hp.out.x Hi.out _).mono ?_
  rintro e W3 ⟨rfl, hB3⟩
  have RP := hide (row_keep' RP.out hB3)
  have RI := hide (row_keep' RI.out hB3)
  have BL : Hid (Below w.heap.size w W3) := BL.out.trans (hB3.mono BL.out.size)
  clear hB3
  obtain ⟨x, Ex⟩ : ∃ x, Hid (x = mP p.x i) := ⟨_, rfl⟩
  have Hx : Hid (x < P) := by rw [Ex.out]; exact mP_lt _ _
  rw [← Ex.out]
  go_upto_region 3 with (first | (refine wpList_store_row (by rfl) 76 (.tmp 4) (.tmp 12) (by rfl) W3.heap.size (fA x) (by rfl) (by rfl) 76 _ (heap_alloc_new _ _) (fA_size _) (fA_old _ _) (fA_all _) ?_))
  obtain ⟨g4, hg4⟩ : ∃ q, q = W3.heap.size := ⟨_, rfl⟩
  obtain ⟨W4, hW4⟩ : ∃ W, W = (W3.alloc (.cells (fA 0) 76)).setRow W3.heap.size (fA x) := ⟨_, rfl⟩
  have lRPg4 : w.heap.size < g4 := by rw [hg4]; exact lt_row RP.out
  have lRIg4 : g3 < g4 := by rw [hg4]; exact lt_row RI.out
  have RP' : Hid (W4.heap[w.heap.size]? = some (.cells (qA p) 79 (0, 0))) := by rw [hW4]; exact (setRow_other _ _ _ _ (by omega)).trans ((heap_alloc_old _ _ (by omega)).trans RP.out)
  have RI' : Hid (W4.heap[g3]? = some (.cells (fA i) 76 (0, 0))) := by rw [hW4]; exact (setRow_other _ _ _ _ (by omega)).trans ((heap_alloc_old _ _ (by omega)).trans RI.out)
  have RX : Hid (W4.heap[g4]? = some (.cells (fA x) 76 (0, 0))) := by rw [hW4, hg4]; exact setRow_heap _ _ _ _ _ _ (heap_alloc_new _ _)
  have BL' : Hid (Below w.heap.size w W4) := by rw [hW4]; exact below_setRow (BL.out.alloc BL.out.size _) BL.out.size _
  rw [← hW4, ← hg4]
  clear hW4 hg4 BL RP RI
  have RP := RP'
  have RI := RI'
  have BL := BL'
  clear RP' RI' BL'
  go_wp2_with (first | (refine wpList_load_mid (by rfl) 76 (.tmp 13) (by rfl) (w.heap.size) 10 (by rfl) (fL p.y) _ (rangeQ RP.out).2.1 underF rfl (fL_size _) ?_) | (refine wpList_load_row (by rfl) 76 (.tmp 3) (by rfl) (g3) (by rfl) 76 (fA i) (0, 0) _ RI.out underF rfl (fA_size _) ?_))
  simp only [foldL]
  refine (mulA p.y i Hp.out.y Hi.out _).mono ?_
  rintro e W5 ⟨rfl, hB5⟩
  have RP := hide (row_keep' RP.out hB5)
  have RI := hide (row_keep' RI.out hB5)
  have RX := hide (row_keep' RX.out hB5)
  have BL : Hid (Below w.heap.size w W5) := BL.out.trans (hB5.mono BL.out.size)
  clear hB5
  obtain ⟨y, Ey⟩ : ∃ x, Hid (x = mP p.y i) := ⟨_, rfl⟩
  have Hy : Hid (y < P) := by rw [Ey.out]; exact mP_lt _ _
  rw [← Ey.out]
  go_upto_region 4 with (first | (refine wpList_store_row (by rfl) 76 (.tmp 5) (.tmp 16) (by rfl) W5.heap.size (fA y) (by rfl) (by rfl) 76 _ (heap_alloc_new _ _) (fA_size _) (fA_old _ _) (fA_all _) ?_))
  obtain ⟨g5, hg5⟩ : ∃ q, q = W5.heap.size := ⟨_, rfl⟩
  obtain ⟨W6, hW6⟩ : ∃ W, W = (W5.alloc (.cells (fA 0) 76)).setRow W5.heap.size (fA y) := ⟨_, rfl⟩
  have lRPg5 : w.heap.size < g5 := by rw [hg5]; exact lt_row RP.out
  have lRIg5 : g3 < g5 := by rw [hg5]; exact lt_row RI.out
  have lRXg5 : g4 < g5 := by rw [hg5]; exact lt_row RX.out
  have RP' : Hid (W6.heap[w.heap.size]? = some (.cells (qA p) 79 (0, 0))) := by rw [hW6]; exact (setRow_other _ _ _ _ (by omega)).trans ((heap_alloc_old _ _ (by omega)).trans RP.out)
  have RI' : Hid (W6.heap[g3]? = some (.cells (fA i) 76 (0, 0))) := by rw [hW6]; exact (setRow_other _ _ _ _ (by omega)).trans ((heap_alloc_old _ _ (by omega)).trans RI.out)
  have RX' : Hid (W6.heap[g4]? = some (.cells (fA x) 76 (0, 0))) := by rw [hW6]; exact (setRow_other _ _ _ _ (by omega)).trans ((heap_alloc_old _ _ (by omega)).trans RX.out)
  have RY : Hid (W6.heap[g5]? = some (.cells (fA y) 76 (0, 0))) := by rw [hW6, hg5]; exact setRow_heap _ _ _ _ _ _ (heap_alloc_new _ _)
  have BL' : Hid (Below w.heap.size w W6) := by rw [hW6]; exact below_setRow (BL.out.alloc BL.out.size _) BL.out.size _
  rw [← hW6, ← hg5]
  clear hW6 hg5 BL RP RI RX
  have RP := RP'
  have RI := RI'
  have RX := RX'
  have BL := BL'
  clear RP' RI' RX' BL'
  clear hz
  have cx := ivs_get (l := fd x) (T := 76) (fr := (0, 0)) (by have e := RX.out; unfold fA at e; exact e) 0 (by rw [fd_length]; decide)
  obtain ⟨z, HZ⟩ : ∃ z, Hid (z = (fd x).getD 0 0) := ⟨_, rfl⟩
  rw [← HZ.out] at cx
  have z0 : 0 ≤ z := by rw [HZ.out, fc0']; omega
  have hodd : (z % 2 == 1) = decide (x % 2 = 1) := by
    rw [HZ.out, fc0']
    by_cases h : x % 2 = 1
    · rw [decide_eq_true h, beq_iff_eq]; omega
    · rw [decide_eq_false h, beq_eq_false_iff_ne]; omega
  obtain ⟨ob, Eo⟩ : ∃ b, Hid (b = decide (x % 2 = 1)) := ⟨_, rfl⟩
  rw [← Eo.out] at hodd
  go_wp2_with (first | (refine wpList_load_row (by rfl) 76 (.tmp 5) (by rfl) (g5) (by rfl) 76 (fA y) (0, 0) _ RY.out underF rfl (fA_size _) ?_))
  refine (textA y ob Hy.out _).mono ?_
  rintro e W7 ⟨rfl, hB7⟩
  have RP := hide (row_keep' RP.out hB7)
  have RI := hide (row_keep' RI.out hB7)
  have RX := hide (row_keep' RX.out hB7)
  have RY := hide (row_keep' RY.out hB7)
  have BL : Hid (Below w.heap.size w W7) := BL.out.trans (hB7.mono BL.out.size)
  clear hB7
  obtain ⟨T, HT⟩ : ∃ T, Hid (T = strOf (leB (codeN y ob) 32)) := ⟨_, rfl⟩
  rw [← HT.out]
  go_wp2_with fail
  go_ret
  exact ⟨by rw [HT.out, Eo.out, Ey.out, Ex.out, Ei.out]; rfl, BL.out⟩
end
end Go.Proofs.YtemdlpcljjdfjaaDoor
