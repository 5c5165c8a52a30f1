import Derived.Test.YtemdlpcljjdfjaaDoorMan3
import Derived.Test.YtemdlpcljjdfjaaDoorOfB
/- curve: Point.Code (genptcode.py). -/
namespace Go.Proofs.YtemdlpcljjdfjaaDoor
open Go.RowKit
def bA (n : Nat) : Array Value := ((leB n 32).map cv).toArray
theorem bA_len (n : Nat) : (bA n).size = 32 := by simp [bA, leB_length]
theorem underCode : Tryd.prog.underlying 48 = some (.array 32 5) := by kernel_rfl
theorem sizeCode : (Tryd.prog.info? 48).map (·.size) = some 32 := by kernel_rfl
theorem bA_size (n : Nat) : (Tryd.prog.info? 48).map (·.size) = some (bA n).size := by rw [bA_len]; exact sizeCode
theorem bA_size' (n : Nat) : (Tryd.prog.info? 47).map (·.size) = some (bA n).size := by rw [bA_len]; exact size32
theorem bA_old (m n : Nat) : (bA m).size = (bA n).size := by rw [bA_len, bA_len]
theorem bA_all (n : Nat) : (bA n).all (·.oneCell') = true := all_oneCell_toArray (bytes_cell _)
theorem zeroCode (w : World) : (zeroValue 48).run Tryd.prog w = .ok (.agg (bA 0)) w := by
  unfold bA; rw [leB_zero]; kernel_rfl
theorem zero32A (w : World) : (zeroValue 47).run Tryd.prog w = .ok (.agg (bA 0)) w := by
  unfold bA; rw [leB_zero]; kernel_rfl
theorem bytesA (n : Nat) (w : World) : Calls Tryd.prog 48 #[.agg (num4A n)] w fun e w' => e = .returned (.agg (bA n)) ∧ Below w.heap.size w w' := feBytes n w
theorem or128 (x : Nat) (h : x < 128) : bits .or .u8 (x : Int) 128 = (x : Int) + 128 := by
  have key : ∀ y : Fin 128, bits .or .u8 ((y.val : Nat) : Int) 128 = ((y.val : Nat) : Int) + 128 := by decide +kernel
  exact key ⟨x, h⟩
/-- The code of a point of the program, as a number. -/
def cdN (p : Pt) : Nat := codeN (mP p.y (invN p.z)) (decide (mP p.x (invN p.z) % 2 = 1))
theorem codeN_row {w : World} {b y : Nat} {T : TypeId} {c : UInt8} (hy : y < P) (hc : c = byteLE y 31) (h : w.heap[b]? = some (.cells (bA y) T (0, 0))) : (w.setCell ⟨b, 31, none⟩ (.int .u8 (C8 c + 128))).heap[b]? = some (.cells (bA (codeN y true)) T (0, 0)) := by
  have hcl : c.toNat < 128 := by
    rw [P_val] at hy
    rw [hc, byteLE_nat, show (256 : Nat) ^ 31 = 452312848583266388373324160190187140051835877600158453279131187530910662656 from by decide]
    omega
  have hcn : (UInt8.ofNat (c.toNat + 128)).toNat = c.toNat + 128 := by rw [UInt8.toNat_ofNat']; omega
  have e := leB_bit y 255 (Nat.lt_of_lt_of_le hy (by decide)) (by decide) (UInt8.ofNat (c.toNat + 128)) (by rw [hcn, hc])
  have e2 : codeN y true = y + 2 ^ 255 := rfl
  unfold bA
  rw [e2, ← e, List.map_set]
  have e3 : cv (UInt8.ofNat (c.toNat + 128)) = .int .u8 (C8 c + 128) := by
    show Value.int .u8 (C8 _) = _
    unfold C8
    rw [hcn]; rfl
  rw [e3]
  exact row_store h 31 _
section
attribute [local irreducible] num4A nL pA bA
set_option maxRecDepth 100000 in
set_option maxHeartbeats 4000000 in
theorem ptCodeA (p : Pt) (hp : p.Ok) (w : World) :
    Calls Tryd.prog 25 #[.agg (pA p)] w fun e w' => e = .returned (.agg (bA (cdN p))) ∧ Below w.heap.size w w' := by
  have hz := zeroE
  have hzc := zeroCode
  have Hp := hide hp
  clear hp
  go_enter Tryd.func25, Tryd.ntmps25
  go_upto_region 1 with fail
  obtain ⟨W0, hW0⟩ : ∃ W, W = (w.alloc (.cells (pA p) 44)).alloc (.cells (bA 0) 48) := ⟨_, rfl⟩
  have RP : Hid (W0.heap[w.heap.size]? = some (.cells (pA p) 44 (0, 0))) := by rw [hW0]; exact at2_0 _ _ _
  have RZ : Hid (W0.heap[w.heap.size + 1]? = some (.cells (bA 0) 48 (0, 0))) := by rw [hW0]; exact at2_1 _ _ _
  have BL : Hid (Below w.heap.size w W0) := by rw [hW0]; show Below _ _ _; go_grown
  rw [← hW0]
  clear hW0
  go_wp2_with (first | (refine wpList_load_mid (by rfl) 42 (.tmp 5) (by rfl) (w.heap.size) 8 (by rfl) (nL p.z) _ (rangeP RP.out).2.2.1 under33 rfl (nL_size _) ?_))
  simp only [foldN]
  refine (feInverse p.z Hp.out.z _).mono ?_
  rintro e W1 ⟨rfl, hB1⟩
  have RP := hide (row_keep' RP.out hB1)
  have RZ := hide (row_keep' RZ.out hB1)
  have BL : Hid (Below w.heap.size w W1) := BL.out.trans (hB1.mono BL.out.size)
  clear hB1
  obtain ⟨i, Ei⟩ : ∃ x, Hid (x = invN p.z) := ⟨_, rfl⟩
  have Hi : Hid (i < P) := by rw [Ei.out]; exact invN_lt _
  rw [← Ei.out]
  go_upto_region 2 with (first | (refine wpList_store_row (by rfl) 42 (.tmp 3) (.tmp 7) (by rfl) W1.heap.size (num4A i) (by rfl) (by rfl) 42 _ (heap_alloc_new _ _) (feSize _) (n4_old _ _) (num4A_all _) ?_))
  obtain ⟨g3, hg3⟩ : ∃ q, q = W1.heap.size := ⟨_, rfl⟩
  obtain ⟨W2, hW2⟩ : ∃ W, W = (W1.alloc (.cells (num4A 0) 42)).setRow W1.heap.size (num4A i) := ⟨_, rfl⟩
  have lRPg3 : w.heap.size < g3 := by rw [hg3]; exact lt_row RP.out
  have lRZg3 : w.heap.size + 1 < g3 := by rw [hg3]; exact lt_row RZ.out
  have RP' : Hid (W2.heap[w.heap.size]? = some (.cells (pA p) 44 (0, 0))) := by rw [hW2]; exact (setRow_other _ _ _ _ (by omega)).trans ((heap_alloc_old _ _ (by omega)).trans RP.out)
  have RZ' : Hid (W2.heap[w.heap.size + 1]? = some (.cells (bA 0) 48 (0, 0))) := by rw [hW2]; exact (setRow_other _ _ _ _ (by omega)).trans ((heap_alloc_old _ _ (by omega)).trans RZ.out)
  have RI : Hid (W2.heap[g3]? = some (.cells (num4A i) 42 (0, 0))) := by rw [hW2, hg3]; exact setRow_heap _ _ _ _ _ _ (heap_alloc_new _ _)
  have BL' : Hid (Below w.heap.size w W2) := by rw [hW2]; exact below_setRow (BL.out.alloc BL.out.size _) BL.out.size _
  rw [← hW2, ← hg3]
  clear hW2 hg3 BL RP RZ
  have RP := RP'
  have RZ := RZ'
  have BL := BL'
  clear RP' RZ' BL'
  go_wp2_with (first | (refine wpList_load_mid (by rfl) 42 (.tmp 8) (by rfl) (w.heap.size) 4 (by rfl) (nL p.y) _ (rangeP RP.out).2.1 under33 rfl (nL_size _) ?_) | (refine wpList_load_row (by rfl) 42 (.tmp 3) (by rfl) (g3) (by rfl) 42 (num4A i) (0, 0) _ RI.out under33 rfl (feSize _) ?_))
  simp only [foldN]
  refine (feTimes p.y i Hp.out.y Hi.out _).mono ?_
  rintro e W3 ⟨rfl, hB3⟩
  have RP := hide (row_keep' RP.out hB3)
  have RZ := hide (row_keep' RZ.out hB3)
  have RI := hide (row_keep' RI.out hB3)
  have BL : Hid (Below w.heap.size w W3) := BL.out.trans (hB3.mono BL.out.size)
  clear hB3
  obtain ⟨y, Ey⟩ : ∃ x, Hid (x = mP p.y i) := ⟨_, rfl⟩
  have Hy : Hid (y < P) := by rw [Ey.out]; exact mP_lt _ _
  rw [← Ey.out]
  go_wp2_with fail
  refine (bytesA y _).mono ?_
  rintro e W4 ⟨rfl, hB4⟩
  have RP := hide (row_keep' RP.out hB4)
  have RZ := hide (row_keep' RZ.out hB4)
  have RI := hide (row_keep' RI.out hB4)
  have BL : Hid (Below w.heap.size w W4) := BL.out.trans (hB4.mono BL.out.size)
  clear hB4
  go_upto_region 3 with (first | (refine wpList_store_row (by rfl) 48 (.tmp 4) (.tmp 12) (by rfl) W4.heap.size (bA y) (by rfl) (by rfl) 48 _ (heap_alloc_new _ _) (bA_size _) (bA_old _ _) (bA_all _) ?_))
  obtain ⟨g4, hg4⟩ : ∃ q, q = W4.heap.size := ⟨_, rfl⟩
  obtain ⟨W5, hW5⟩ : ∃ W, W = (W4.alloc (.cells (bA 0) 48)).setRow W4.heap.size (bA y) := ⟨_, rfl⟩
  have lRPg4 : w.heap.size < g4 := by rw [hg4]; exact lt_row RP.out
  have lRZg4 : w.heap.size + 1 < g4 := by rw [hg4]; exact lt_row RZ.out
  have lRIg4 : g3 < g4 := by rw [hg4]; exact lt_row RI.out
  have RP' : Hid (W5.heap[w.heap.size]? = some (.cells (pA p) 44 (0, 0))) := by rw [hW5]; exact (setRow_other _ _ _ _ (by omega)).trans ((heap_alloc_old _ _ (by omega)).trans RP.out)
  have RZ' : Hid (W5.heap[w.heap.size + 1]? = some (.cells (bA 0) 48 (0, 0))) := by rw [hW5]; exact (setRow_other _ _ _ _ (by omega)).trans ((heap_alloc_old _ _ (by omega)).trans RZ.out)
  have RI' : Hid (W5.heap[g3]? = some (.cells (num4A i) 42 (0, 0))) := by rw [hW5]; exact (setRow_other _ _ _ _ (by omega)).trans ((heap_alloc_old _ _ (by omega)).trans RI.out)
  have RC : Hid (W5.heap[g4]? = some (.cells (bA y) 48 (0, 0))) := by rw [hW5, hg4]; exact setRow_heap _ _ _ _ _ _ (heap_alloc_new _ _)
  have BL' : Hid (Below w.heap.size w W5) := by rw [hW5]; exact below_setRow (BL.out.alloc BL.out.size _) BL.out.size _
  rw [← hW5, ← hg4]
  clear hW5 hg4 BL RP RZ RI
  have RP := RP'
  have RZ := RZ'
  have RI := RI'
  have BL := BL'
  clear RP' RZ' RI' BL'
  go_wp2_with (first | (refine wpList_load_mid (by rfl) 42 (.tmp 13) (by rfl) (w.heap.size) 0 (by rfl) (nL p.x) _ (rangeP RP.out).1 under33 rfl (nL_size _) ?_) | (refine wpList_load_row (by rfl) 42 (.tmp 3) (by rfl) (g3) (by rfl) 42 (num4A i) (0, 0) _ RI.out under33 rfl (feSize _) ?_))
  simp only [foldN]
  refine (feTimes p.x i Hp.out.x Hi.out _).mono ?_
  rintro e W6 ⟨rfl, hB6⟩
  have RP := hide (row_keep' RP.out hB6)
  have RZ := hide (row_keep' RZ.out hB6)
  have RI := hide (row_keep' RI.out hB6)
  have RC := hide (row_keep' RC.out hB6)
  have BL : Hid (Below w.heap.size w W6) := BL.out.trans (hB6.mono BL.out.size)
  clear hB6
  obtain ⟨x, Ex⟩ : ∃ x, Hid (x = mP p.x i) := ⟨_, rfl⟩
  have Hx : Hid (x < P) := by rw [Ex.out]; exact mP_lt _ _
  rw [← Ex.out]
  go_wp2_with fail
  refine (feIsOdd x _).mono ?_
  rintro e W7 ⟨rfl, hB7⟩
  have RP := hide (row_keep' RP.out hB7)
  have RZ := hide (row_keep' RZ.out hB7)
  have RI := hide (row_keep' RI.out hB7)
  have RC := hide (row_keep' RC.out hB7)
  have BL : Hid (Below w.heap.size w W7) := BL.out.trans (hB7.mono BL.out.size)
  clear hB7
  obtain ⟨ob, Eo⟩ : ∃ b, Hid (b = decide (x % 2 = 1)) := ⟨_, rfl⟩
  rw [← Eo.out]
  have HC : Hid (cdN p = codeN y ob) := by show _ = _; unfold cdN; rw [Eo.out, Ex.out, Ey.out, Ei.out]
  clear hz hzc
  cases ob
  case false =>
    go_wp2_with (first | (refine wpList_load_row (by rfl) 48 (.tmp 4) (by rfl) (g4) (by rfl) 48 (bA y) (0, 0) _ RC.out underCode rfl (bA_size _) ?_) | (refine wpList_store_row (by rfl) 48 (.tmp 2) (.tmp 22) (by rfl) (w.heap.size + 1) (bA y) (by rfl) (by rfl) 48 _ RZ.out (bA_size _) (bA_old _ _) (bA_all _) ?_))
    refine bodyPost_ret (v := .agg (bA y)) (results_cell_row Tryd.results25 _ _ (w.heap.size + 1) 48 _ (0, 0) _ (by rfl) (setRow_heap _ _ _ _ _ _ RZ.out) underCode rfl (bA_size _)) rfl ⟨by first | (rw [HC.out]; done) | (rw [HC.out]; rfl), below_setRow BL.out (by omega) _⟩
  case true =>
  obtain ⟨c, Ec⟩ : ∃ c, Hid (c = byteLE y 31) := ⟨_, rfl⟩
  have c2 := cvs_get (l := leB y 32) (T := 48) (fr := (0, 0)) (by have e := RC.out; unfold bA at e; exact e) 31 (by rw [leB_length]; decide)
  rw [leB_getD y 32 31 (by decide), ← Ec.out, show cv c = .int .u8 (C8 c) from rfl] at c2
  have f2 := frozen_of_row W7 g4 31 _ _ RC.out
  have hcl : c.toNat < 128 := by
    have h := Hy.out; rw [P_val] at h
    rw [Ec.out, byteLE_nat, show (256 : Nat) ^ 31 = 452312848583266388373324160190187140051835877600158453279131187530910662656 from by decide]; omega
  have hor : bits .or .u8 (C8 c) 128 = C8 c + 128 := or128 c.toNat hcl
  obtain ⟨v, Ev⟩ : ∃ v, Hid (v = C8 c + 128) := ⟨_, rfl⟩
  rw [← Ev.out] at hor
  have RC2 : Hid ((W7.setCell ⟨g4, 31, none⟩ (.int .u8 v)).heap[g4]? = some (.cells (bA (codeN y true)) 48 (0, 0))) := by rw [Ev.out]; exact codeN_row Hy.out Ec.out RC.out
  have RZ2 : Hid ((W7.setCell ⟨g4, 31, none⟩ (.int .u8 v)).heap[w.heap.size + 1]? = some (.cells (bA 0) 48 (0, 0))) := far_row _ _ RZ.out (by omega)
  have BL2 : Hid (Below w.heap.size w (W7.setCell ⟨g4, 31, none⟩ (.int .u8 v))) := BL.out.setCell (by show w.heap.size ≤ g4; omega) _
  clear hcl
  go_upto_region 5 with fail
  obtain ⟨WV, hWV⟩ : ∃ W, W = W7.setCell ⟨g4, 31, none⟩ (.int .u8 v) := ⟨_, rfl⟩
  rw [← hWV] at RC2 RZ2 BL2 ⊢
  clear hWV c2 f2 hor RC RZ BL
  have RC := RC2
  have RZ := RZ2
  have BL := BL2
  go_wp2_with (first | (refine wpList_load_row (by rfl) 48 (.tmp 4) (by rfl) (g4) (by rfl) 48 (bA (codeN y true)) (0, 0) _ RC.out underCode rfl (bA_size _) ?_) | (refine wpList_store_row (by rfl) 48 (.tmp 2) (.tmp 22) (by rfl) (w.heap.size + 1) (bA (codeN y true)) (by rfl) (by rfl) 48 _ RZ.out (bA_size _) (bA_old _ _) (bA_all _) ?_))
  refine bodyPost_ret (v := .agg (bA (codeN y true))) (results_cell_row Tryd.results25 _ _ (w.heap.size + 1) 48 _ (0, 0) _ (by rfl) (setRow_heap _ _ _ _ _ _ RZ.out) underCode rfl (bA_size _)) rfl ⟨by first | (rw [HC.out]; done) | (rw [HC.out]; rfl), below_setRow BL.out (by omega) _⟩
end
end Go.Proofs.YtemdlpcljjdfjaaDoor
