import Derived.Test.YtccgfabojbjmjaaGreatDoorSd24
import Derived.Deep.QuietTactic
import Derived.BigQuiet
namespace Go.Proofs.YtccgfabojbjmjaaGreatDoor
open Go.RowKit
def bA (n : Nat) : Array Value := ((leB n 32).map cv).toArray
theorem bA_len (n : Nat) : (bA n).size = 32 := by simp [bA, leB_length]
theorem underCode : Tryz.prog.underlying 62 = some (.array 32 5) := by kernel_rfl
theorem sizeCode : (Tryz.prog.info? 62).map (·.size) = some 32 := by kernel_rfl
theorem bA_size (n : Nat) : (Tryz.prog.info? 62).map (·.size) = some (bA n).size := by rw [bA_len]; exact sizeCode
theorem bA_size' (n : Nat) : (Tryz.prog.info? 61).map (·.size) = some (bA n).size := by rw [bA_len]; exact size32
theorem bA_old (m n : Nat) : (bA m).size = (bA n).size := by rw [bA_len, bA_len]
theorem bA_all (n : Nat) : (bA n).all (·.oneCell') = true := all_oneCell_toArray (bytes_cell _)
theorem zeroCode (w : World) : (zeroValue 62).run Tryz.prog w = .ok (.agg (bA 0)) w := by
 unfold bA; rw [leB_zero]; kernel_rfl
theorem zero32A (w : World) : (zeroValue 61).run Tryz.prog w = .ok (.agg (bA 0)) w := by
 unfold bA; rw [leB_zero]; kernel_rfl
theorem bytesA (n : Nat) (w : World) : Calls Tryz.prog 94 #[.agg (num4A n)] w fun e w' => e = .returned (.agg (bA n)) ∧ Below w.heap.size w w' := feBytes n w
theorem or128 (x : Nat) (h : x < 128) : bits .or .u8 (x : Int) 128 = (x : Int) + 128 := by
 have key : ∀ y : Fin 128, bits .or .u8 ((y.val : Nat) : Int) 128 = ((y.val : Nat) : Int) + 128 := by decide +kernel
 exact key ⟨x, h⟩
def cdN (p : Pt) : Nat := codeN (mP p.y (invN p.z)) (decide (mP p.x (invN p.z) % 2 = 1))
theorem codeN_row {w : World} {b y : Nat} {T : TypeId} {c : UInt8} (hy : y < P) (hc : c = byteLE y 31) (h : w.heap[b]? = some (.cells (bA y) T (0, 0))) : (w.setCell ⟨b, 31, none⟩ (.int .u8 (C8 c + 128))).heap[b]? = some (.cells (bA (codeN y true)) T (0, 0)) := by
 have hcl : c.toNat < 128 := by
  rw [P_val] at hy
  rw [hc, byteLE_nat, show (256 : Nat) ^ 31 = 452312848583266388373324160190187140051835877600158453279131187530910662656 from by decide]
  omega
 have hcn : (UInt8.ofNat (c.toNat + 128)).toNat = c.toNat + 128 := by rw [UInt8.toNat_ofNat']; omega
 have e := leB_bit y 255 (Nat.lt_of_lt_of_le hy (by decide)) (by decide) (UInt8.ofNat (c.toNat + 128)) (by rw [hcn, hc])
 have e2 : codeN y true = y + 2 ^ 255 := rfl
 unfold bA
 rw [e2, ← e, List.map_set]
 have e3 : cv (UInt8.ofNat (c.toNat + 128)) = .int .u8 (C8 c + 128) := by
  show Value.int .u8 (C8 _) = _
  unfold C8
  rw [hcn]; rfl
 rw [e3]
 exact row_store h 31 _
section
attribute [local irreducible] num4A nL pA bA
set_option maxRecDepth 100000 in
set_option maxHeartbeats 4000000 in
theorem ptCodeA (p : Pt) (hp : p.Ok) (w : World) :
  Calls Tryz.prog 58 #[.agg (pA p)] w fun e w' => e = .returned (.agg (bA (cdN p))) ∧ Below w.heap.size w w' := by
 have hz := zeroE
 have hzc := zeroCode
 have Hp := hide hp
 clear hp
 go_enter Tryz.func58, Tryz.ntmps58
 go_upto_region 1 with fail
 obtain ⟨W0, hW0⟩ : ∃ W, W = (w.alloc (.cells (pA p) 82)).alloc (.cells (bA 0) 62) := ⟨_, rfl⟩
 have RP : Hid (W0.heap[w.heap.size]? = some (.cells (pA p) 82 (0, 0))) := by rw [hW0]; exact at2_0 _ _ _
 have RZ : Hid (W0.heap[w.heap.size + 1]? = some (.cells (bA 0) 62 (0, 0))) := by rw [hW0]; exact at2_1 _ _ _
 have BL : Hid (Below w.heap.size w W0) := by rw [hW0]; show Below _ _ _; go_grown
 rw [← hW0]
 clear hW0
 go_wp2_with (first | (refine wpList_load_mid (by rfl) 80 (.tmp 5) (by rfl) (w.heap.size) 8 (by rfl) (nL p.z) _ (rangeP RP.out).2.2.1 under33 rfl (nL_size _) ?_))
 simp only [foldN]
 refine (feInverse p.z Hp.out.z _).mono ?_
 rintro e W1 ⟨rfl, hB1⟩
 have RP := hide (row_keep' RP.out hB1)
 have RZ := hide (row_keep' RZ.out hB1)
 have BL := kTr BL hB1
 clear hB1
 obtain ⟨i, Ei⟩ : ∃ x, Hid (x = invN p.z) := ⟨_, rfl⟩
 have Hi : Hid (i < P) := by rw [Ei.out]; exact invN_lt _
 rw [← Ei.out]
 go_upto_region 2 with (first | (refine wpList_store_row (by rfl) 80 (.tmp 3) (.tmp 7) (by rfl) W1.heap.size (num4A i) (by rfl) (by rfl) 80 _ (heap_alloc_new _ _) (feSize _) (n4_old _ _) (num4A_all _) ?_))
 obtain ⟨g3, hg3⟩ : ∃ q, q = W1.heap.size := ⟨_, rfl⟩
 obtain ⟨W2, hW2⟩ : ∃ W, W = (W1.alloc (.cells (num4A 0) 80)).setRow W1.heap.size (num4A i) := ⟨_, rfl⟩
 have lRPg3 : w.heap.size < g3 := by rw [hg3]; exact lt_row RP.out
 have lRZg3 : w.heap.size + 1 < g3 := by rw [hg3]; exact lt_row RZ.out
 have RP' : Hid (W2.heap[w.heap.size]? = some (.cells (pA p) 82 (0, 0))) := by rw [hW2]; exact (setRow_other _ _ _ _ (by omega)).trans ((heap_alloc_old _ _ (by omega)).trans RP.out)
 have RZ' : Hid (W2.heap[w.heap.size + 1]? = some (.cells (bA 0) 62 (0, 0))) := by rw [hW2]; exact (setRow_other _ _ _ _ (by omega)).trans ((heap_alloc_old _ _ (by omega)).trans RZ.out)
 have RI : Hid (W2.heap[g3]? = some (.cells (num4A i) 80 (0, 0))) := by rw [hW2, hg3]; exact setRow_heap _ _ _ _ _ _ (heap_alloc_new _ _)
 have BL' : Hid (Below w.heap.size w W2) := by rw [hW2]; exact below_setRow (BL.out.alloc BL.out.size _) BL.out.size _
 rw [← hW2, ← hg3]
 clear hW2 hg3 BL RP RZ
 have RP := RP'
 have RZ := RZ'
 have BL := BL'
 clear RP' RZ' BL'
 go_wp2_with (first | (refine wpList_load_mid (by rfl) 80 (.tmp 8) (by rfl) (w.heap.size) 4 (by rfl) (nL p.y) _ (rangeP RP.out).2.1 under33 rfl (nL_size _) ?_) | (refine wpList_load_row (by rfl) 80 (.tmp 3) (by rfl) (g3) (by rfl) 80 (num4A i) (0, 0) _ RI.out under33 rfl (feSize _) ?_))
 simp only [foldN]
 refine (feTimes p.y i Hp.out.y Hi.out _).mono ?_
 rintro e W3 ⟨rfl, hB3⟩
 have RP := hide (row_keep' RP.out hB3)
 have RZ := hide (row_keep' RZ.out hB3)
 have RI := hide (row_keep' RI.out hB3)
 have BL := kTr BL hB3
 clear hB3
 obtain ⟨y, Ey⟩ : ∃ x, Hid (x = mP p.y i) := ⟨_, rfl⟩
 have Hy : Hid (y < P) := by rw [Ey.out]; exact mP_lt _ _
 rw [← Ey.out]
 go_wp2_with fail
 refine (bytesA y _).mono ?_
 rintro e W4 ⟨rfl, hB4⟩
 have RP := hide (row_keep' RP.out hB4)
 have RZ := hide (row_keep' RZ.out hB4)
 have RI := hide (row_keep' RI.out hB4)
 have BL := kTr BL hB4
 clear hB4
 go_upto_region 3 with (first | (refine wpList_store_row (by rfl) 62 (.tmp 4) (.tmp 12) (by rfl) W4.heap.size (bA y) (by rfl) (by rfl) 62 _ (heap_alloc_new _ _) (bA_size _) (bA_old _ _) (bA_all _) ?_))
 obtain ⟨g4, hg4⟩ : ∃ q, q = W4.heap.size := ⟨_, rfl⟩
 obtain ⟨W5, hW5⟩ : ∃ W, W = (W4.alloc (.cells (bA 0) 62)).setRow W4.heap.size (bA y) := ⟨_, rfl⟩
 have lRPg4 : w.heap.size < g4 := by rw [hg4]; exact lt_row RP.out
 have lRZg4 : w.heap.size + 1 < g4 := by rw [hg4]; exact lt_row RZ.out
 have lRIg4 : g3 < g4 := by rw [hg4]; exact lt_row RI.out
 have RP' : Hid (W5.heap[w.heap.size]? = some (.cells (pA p) 82 (0, 0))) := by rw [hW5]; exact (setRow_other _ _ _ _ (by omega)).trans ((heap_alloc_old _ _ (by omega)).trans RP.out)
 have RZ' : Hid (W5.heap[w.heap.size + 1]? = some (.cells (bA 0) 62 (0, 0))) := by rw [hW5]; exact (setRow_other _ _ _ _ (by omega)).trans ((heap_alloc_old _ _ (by omega)).trans RZ.out)
 have RI' : Hid (W5.heap[g3]? = some (.cells (num4A i) 80 (0, 0))) := by rw [hW5]; exact (setRow_other _ _ _ _ (by omega)).trans ((heap_alloc_old _ _ (by omega)).trans RI.out)
 have RC : Hid (W5.heap[g4]? = some (.cells (bA y) 62 (0, 0))) := by rw [hW5, hg4]; exact setRow_heap _ _ _ _ _ _ (heap_alloc_new _ _)
 have BL' : Hid (Below w.heap.size w W5) := by rw [hW5]; exact below_setRow (BL.out.alloc BL.out.size _) BL.out.size _
 rw [← hW5, ← hg4]
 clear hW5 hg4 BL RP RZ RI
 have RP := RP'
 have RZ := RZ'
 have RI := RI'
 have BL := BL'
 clear RP' RZ' RI' BL'
 go_wp2_with (first | (refine wpList_load_mid (by rfl) 80 (.tmp 13) (by rfl) (w.heap.size) 0 (by rfl) (nL p.x) _ (rangeP RP.out).1 under33 rfl (nL_size _) ?_) | (refine wpList_load_row (by rfl) 80 (.tmp 3) (by rfl) (g3) (by rfl) 80 (num4A i) (0, 0) _ RI.out under33 rfl (feSize _) ?_))
 simp only [foldN]
 refine (feTimes p.x i Hp.out.x Hi.out _).mono ?_
 rintro e W6 ⟨rfl, hB6⟩
 have RP := hide (row_keep' RP.out hB6)
 have RZ := hide (row_keep' RZ.out hB6)
 have RI := hide (row_keep' RI.out hB6)
 have RC := hide (row_keep' RC.out hB6)
 have BL := kTr BL hB6
 clear hB6
 obtain ⟨x, Ex⟩ : ∃ x, Hid (x = mP p.x i) := ⟨_, rfl⟩
 have Hx : Hid (x < P) := by rw [Ex.out]; exact mP_lt _ _
 rw [← Ex.out]
 go_wp2_with fail
 refine (feIsOdd x _).mono ?_
 rintro e W7 ⟨rfl, hB7⟩
 have RP := hide (row_keep' RP.out hB7)
 have RZ := hide (row_keep' RZ.out hB7)
 have RI := hide (row_keep' RI.out hB7)
 have RC := hide (row_keep' RC.out hB7)
 have BL := kTr BL hB7
 clear hB7
 obtain ⟨ob, Eo⟩ : ∃ b, Hid (b = decide (x % 2 = 1)) := ⟨_, rfl⟩
 rw [← Eo.out]
 have HC : Hid (cdN p = codeN y ob) := by show _ = _; unfold cdN; rw [Eo.out, Ex.out, Ey.out, Ei.out]
 clear hz hzc
 cases ob
 case false =>
  go_wp2_with (first | (refine wpList_load_row (by rfl) 62 (.tmp 4) (by rfl) (g4) (by rfl) 62 (bA y) (0, 0) _ RC.out underCode rfl (bA_size _) ?_) | (refine wpList_store_row (by rfl) 62 (.tmp 2) (.tmp 22) (by rfl) (w.heap.size + 1) (bA y) (by rfl) (by rfl) 62 _ RZ.out (bA_size _) (bA_old _ _) (bA_all _) ?_))
  refine bodyPost_ret (v := .agg (bA y)) (results_cell_row Tryz.results58 _ _ (w.heap.size + 1) 62 _ (0, 0) _ (by rfl) (setRow_heap _ _ _ _ _ _ RZ.out) underCode rfl (bA_size _)) rfl ⟨by first | (rw [HC.out]; done) | (rw [HC.out]; rfl), below_setRow BL.out (by omega) _⟩
 case true =>
 obtain ⟨c, Ec⟩ : ∃ c, Hid (c = byteLE y 31) := ⟨_, rfl⟩
 have c2 := cvs_get (l := leB y 32) (T := 62) (fr := (0, 0)) (by have e := RC.out; unfold bA at e; exact e) 31 (by rw [leB_length]; decide)
 rw [leB_getD y 32 31 (by decide), ← Ec.out, show cv c = .int .u8 (C8 c) from rfl] at c2
 have f2 := frozen_of_row W7 g4 31 _ _ RC.out
 have hcl : c.toNat < 128 := by
  have h := Hy.out; rw [P_val] at h
  rw [Ec.out, byteLE_nat, show (256 : Nat) ^ 31 = 452312848583266388373324160190187140051835877600158453279131187530910662656 from by decide]; omega
 have hor : bits .or .u8 (C8 c) 128 = C8 c + 128 := or128 c.toNat hcl
 obtain ⟨v, Ev⟩ : ∃ v, Hid (v = C8 c + 128) := ⟨_, rfl⟩
 rw [← Ev.out] at hor
 have RC2 : Hid ((W7.setCell ⟨g4, 31, none⟩ (.int .u8 v)).heap[g4]? = some (.cells (bA (codeN y true)) 62 (0, 0))) := by rw [Ev.out]; exact codeN_row Hy.out Ec.out RC.out
 have RZ2 : Hid ((W7.setCell ⟨g4, 31, none⟩ (.int .u8 v)).heap[w.heap.size + 1]? = some (.cells (bA 0) 62 (0, 0))) := far_row _ _ RZ.out (by omega)
 have BL2 : Hid (Below w.heap.size w (W7.setCell ⟨g4, 31, none⟩ (.int .u8 v))) := BL.out.setCell (by show w.heap.size ≤ g4; omega) _
 clear hcl
 go_upto_region 5 with fail
 obtain ⟨WV, hWV⟩ : ∃ W, W = W7.setCell ⟨g4, 31, none⟩ (.int .u8 v) := ⟨_, rfl⟩
 rw [← hWV] at RC2 RZ2 BL2 ⊢
 clear hWV c2 f2 hor RC RZ BL
 have RC := RC2
 have RZ := RZ2
 have BL := BL2
 go_wp2_with (first | (refine wpList_load_row (by rfl) 62 (.tmp 4) (by rfl) (g4) (by rfl) 62 (bA (codeN y true)) (0, 0) _ RC.out underCode rfl (bA_size _) ?_) | (refine wpList_store_row (by rfl) 62 (.tmp 2) (.tmp 22) (by rfl) (w.heap.size + 1) (bA (codeN y true)) (by rfl) (by rfl) 62 _ RZ.out (bA_size _) (bA_old _ _) (bA_all _) ?_))
 refine bodyPost_ret (v := .agg (bA (codeN y true))) (results_cell_row Tryz.results58 _ _ (w.heap.size + 1) 62 _ (0, 0) _ (by rfl) (setRow_heap _ _ _ _ _ _ RZ.out) underCode rfl (bA_size _)) rfl ⟨by first | (rw [HC.out]; done) | (rw [HC.out]; rfl), below_setRow BL.out (by omega) _⟩
end
section
attribute [local go_sem] U_and U_or U_xor U_not U_add U_add_one
attribute [local go_sem ↓] Go.wp_at_zero Go.wp_at_succ
def z8 : Array Value := ((List.replicate 8 (0#64)).map uv).toArray
def z80 : Array Value := (wrow []).toArray
def w8 (s : S8) : List Value := s.words.map uv
theorem mix_world1 {b : Nat} {w w1 W1 : World} {cs : List Value} {R : List Value} {Z : Array Value} {t : TypeId} (hb1 : Below w.heap.size w w1) (hb : b < w.heap.size) (hT : w1.rangeAt b 0 cs)
  (hW1 : W1 = (w1.alloc (.cells Z t)).setRow w1.heap.size R.toArray) :
  Hid (Below w.heap.size w W1 ∧ w1.heap.size < W1.heap.size ∧ W1.heap[w1.heap.size]? = some (.cells R.toArray t (0, 0)) ∧ W1.rangeAt b 0 cs) := by
 subst hW1
 refine ⟨below_setRow (hb1.alloc hb1.size _) hb1.size _, by simp, setRow_heap _ _ _ _ _ _ (heap_alloc_new _ _), fun j v hv => ?_⟩
 have := hb1.size
 rw [cell_setRow_other _ _ _ _ (by show b ≠ _; omega), World.cell?_alloc_lt _ _ _ (by show b < _; omega)]
 exact hT j v hv
theorem mix_world2 {b g : Nat} {w W1 W2 : World} {cs : List Value} {R X : List Value} {Z : Array Value} {t t' : TypeId}
  (h : Below w.heap.size w W1 ∧ g < W1.heap.size ∧ W1.heap[g]? = some (.cells R.toArray t (0, 0)) ∧ W1.rangeAt b 0 cs)
  (hW2 : W2 = (W1.alloc (.cells Z t')).setRow W1.heap.size X.toArray) :
  Hid (Below w.heap.size w W2 ∧ W2.heap[g]? = some (.cells R.toArray t (0, 0)) ∧ W2.heap[W1.heap.size]? = some (.cells X.toArray t' (0, 0)) ∧ W2.heap.size = W1.heap.size + 1) := by
 subst hW2
 obtain ⟨h1, h2, h3, h4⟩ := h
 refine ⟨below_setRow (h1.alloc h1.size _) h1.size _, ?_, setRow_heap _ _ _ _ _ _ (heap_alloc_new _ _), by simp⟩
 rw [setRow_other _ _ _ _ (by omega), heap_alloc_old _ _ h2]; exact h3
theorem w8_cell {W : World} {g : Nat} {s : S8} {t : TypeId} (h : W.heap[g]? = some (.cells (w8 s).toArray t (0, 0))) (i : Nat) (hi : i < 8) : W.cell? ⟨g, i, none⟩ = some (.int .u64 (U (s.words.getD i 0))) := by
 rw [cell_of_row W g i _ _ _ h]
 have : i < s.words.length := hi
 simp [w8, this]
theorem index8_0 (s : S8) (w : World) : (Instr.index 163 (.agg #[.int .u64 (U s.a), .int .u64 (U s.b), .int .u64 (U s.c), .int .u64 (U s.d), .int .u64 (U s.e), .int .u64 (U s.f), .int .u64 (U s.g), .int .u64 (U s.h)]) (.int .i64 0)).run Tryz.prog w = .ok (.int .u64 (U s.a)) w := by kernel_rfl
theorem index8_1 (s : S8) (w : World) : (Instr.index 163 (.agg #[.int .u64 (U s.a), .int .u64 (U s.b), .int .u64 (U s.c), .int .u64 (U s.d), .int .u64 (U s.e), .int .u64 (U s.f), .int .u64 (U s.g), .int .u64 (U s.h)]) (.int .i64 1)).run Tryz.prog w = .ok (.int .u64 (U s.b)) w := by kernel_rfl
theorem index8_2 (s : S8) (w : World) : (Instr.index 163 (.agg #[.int .u64 (U s.a), .int .u64 (U s.b), .int .u64 (U s.c), .int .u64 (U s.d), .int .u64 (U s.e), .int .u64 (U s.f), .int .u64 (U s.g), .int .u64 (U s.h)]) (.int .i64 2)).run Tryz.prog w = .ok (.int .u64 (U s.c)) w := by kernel_rfl
theorem index8_3 (s : S8) (w : World) : (Instr.index 163 (.agg #[.int .u64 (U s.a), .int .u64 (U s.b), .int .u64 (U s.c), .int .u64 (U s.d), .int .u64 (U s.e), .int .u64 (U s.f), .int .u64 (U s.g), .int .u64 (U s.h)]) (.int .i64 3)).run Tryz.prog w = .ok (.int .u64 (U s.d)) w := by kernel_rfl
theorem index8_4 (s : S8) (w : World) : (Instr.index 163 (.agg #[.int .u64 (U s.a), .int .u64 (U s.b), .int .u64 (U s.c), .int .u64 (U s.d), .int .u64 (U s.e), .int .u64 (U s.f), .int .u64 (U s.g), .int .u64 (U s.h)]) (.int .i64 4)).run Tryz.prog w = .ok (.int .u64 (U s.e)) w := by kernel_rfl
theorem index8_5 (s : S8) (w : World) : (Instr.index 163 (.agg #[.int .u64 (U s.a), .int .u64 (U s.b), .int .u64 (U s.c), .int .u64 (U s.d), .int .u64 (U s.e), .int .u64 (U s.f), .int .u64 (U s.g), .int .u64 (U s.h)]) (.int .i64 5)).run Tryz.prog w = .ok (.int .u64 (U s.f)) w := by kernel_rfl
theorem index8_6 (s : S8) (w : World) : (Instr.index 163 (.agg #[.int .u64 (U s.a), .int .u64 (U s.b), .int .u64 (U s.c), .int .u64 (U s.d), .int .u64 (U s.e), .int .u64 (U s.f), .int .u64 (U s.g), .int .u64 (U s.h)]) (.int .i64 6)).run Tryz.prog w = .ok (.int .u64 (U s.g)) w := by kernel_rfl
theorem index8_7 (s : S8) (w : World) : (Instr.index 163 (.agg #[.int .u64 (U s.a), .int .u64 (U s.b), .int .u64 (U s.c), .int .u64 (U s.d), .int .u64 (U s.e), .int .u64 (U s.f), .int .u64 (U s.g), .int .u64 (U s.h)]) (.int .i64 7)).run Tryz.prog w = .ok (.int .u64 (U s.h)) w := by kernel_rfl
theorem index8 (s : S8) (j : Nat) (hj : j < 8) : ∀ w, (Instr.index 163 (.agg #[.int .u64 (U s.a), .int .u64 (U s.b), .int .u64 (U s.c), .int .u64 (U s.d), .int .u64 (U s.e), .int .u64 (U s.f), .int .u64 (U s.g), .int .u64 (U s.h)]) (.int .i64 j)).run Tryz.prog w = .ok (.int .u64 (U (s.words.getD j 0))) w := by
 intro w
 have h : j = 0 ∨ j = 1 ∨ j = 2 ∨ j = 3 ∨ j = 4 ∨ j = 5 ∨ j = 6 ∨ j = 7 := by omega
 rcases h with rfl | rfl | rfl | rfl | rfl | rfl | rfl | rfl
 · exact index8_0 s w
 · exact index8_1 s w
 · exact index8_2 s w
 · exact index8_3 s w
 · exact index8_4 s w
 · exact index8_5 s w
 · exact index8_6 s w
 · exact index8_7 s w
theorem rnds_succ (l : List (BitVec 64)) (s : S8) (n : Nat) : rnds l s (n + 1) = stepW (kw n) (l.getD n 0) (rnds l s n) := rfl
theorem addTo_succ (s t : S8) (k : Nat) : addTo s t (k + 1) = (addTo s t k).set k (s.words.getD k 0 + t.words.getD k 0) := rfl
theorem row_start (H : HS) (t : S8) : H.row = rowLH (addTo H.st t 0) H := rfl
theorem row_mix (H : HS) (l : List (BitVec 64)) (h : l = sch H.blk 64) : H.mix.row = rowLH (H.st.add (rnds l H.st 80)).words H := by
 rw [← sch64_eq] at h; subst h; rw [← rnd80_eq]; cases H; rfl
theorem blk_mix (H : HS) : H.mix.blk = H.blk := by cases H; rfl
theorem cell_store_other {w : World} {g g' i j : Nat} {v u : Value} (h : w.cell? ⟨g, i, none⟩ = some u) (hne : g' ≠ g) : (w.setCell ⟨g', j, none⟩ v).drew.cell? ⟨g, i, none⟩ = some u := by
 rw [World.cell?_drew, World.cell?_setCell_other _ _ _ _ (by intro e; exact hne (congrArg Addr.block e))]; exact h
set_option maxRecDepth 100000 in
set_option maxHeartbeats 4000000 in
theorem mixBlock_any (b : Nat) (T : TypeId) (H : HS) (w : World) (h : Has w b T H) (hK : Tab w) (_hb0 : 9 ≠ b) :
  Calls Tryz.prog 127 #[.pointer (some ⟨b, 0, none⟩)] w fun e w' => e = .returned (.tuple #[]) ∧ Has w' b T H.mix ∧ Turn b w w' := by
 have hz : ∀ w, (zeroValue 257).run Tryz.prog w = .ok (.agg z80) w := zero80
 have hz8 : ∀ w, (zeroValue 163).run Tryz.prog w = .ok (.agg z8) w := zero8
 have HH : Hid (Has w b T H) := h
 have HK : Hid (Tab w) := hK
 have hb : b < w.heap.size := h.lt
 clear h hK
 go_enter Tryz.func127, Tryz.ntmps127
 go_wp2_with fail
 refine (spread_any b T H w HH.out).mono ?_
 rintro e w1 ⟨rfl, hb1⟩
 obtain ⟨L, HL⟩ : ∃ L, Hid (L = sch H.blk 64) := ⟨_, rfl⟩
 rw [← HL.out]
 have HLL : Hid (L.length = 80) := by rw [HL.out]; exact sch_length _ _
 obtain ⟨R, HR⟩ : ∃ R, Hid (R = wrow L) := ⟨_, rfl⟩
 rw [← HR.out]
 have HSz : Hid ((Tryz.prog.info? 257).map (·.size) = some R.toArray.size) := by show _ = _; rw [size80, HR.out]; simp [wrow_length, HLL.out]
 have HO : Hid (z80.size = R.toArray.size) := by show _ = _; rw [HR.out]; simp [z80, wrow_length, HLL.out]
 have HA : Hid (R.toArray.all (·.oneCell') = true) := by rw [HR.out]; exact all_oneCell_toArray (wrow_cell _)
 have HT : Hid (w1.rangeAt b 0 (w8 H.st)) := by
  intro j v hv
  have hj : j < 8 := by simp only [w8, S8.words, List.getElem?_map] at hv; rcases Nat.lt_or_ge j 8 with g | g; exact g; rw [List.getElem?_eq_none (by simpa using g)] at hv; cases hv
  rw [Nat.zero_add, (hb1.cell (by exact hb) : w1.cell? ⟨b, j, none⟩ = w.cell? ⟨b, j, none⟩), HH.out.cell j]
  unfold HS.row at *; rw [List.getElem?_append_left (by simpa [S8.words] using hj)]; exact hv
 go_wp2_with (first
  | (refine wpList_store_row (by rfl) 257 (.tmp 2) (.tmp 18) (by rfl) w1.heap.size R.toArray (by rfl) (by rfl) 257 _ (heap_alloc_new _ _) HSz.out HO.out HA.out ?_; (obtain ⟨W1, hW1⟩ : ∃ W1, W1 = (w1.alloc (.cells z80 257)).setRow w1.heap.size R.toArray := ⟨_, rfl⟩); rw [← hW1]; have F1 := mix_world1 hb1 hb HT.out hW1; clear hW1)
  | (refine wpList_load_mid (by rfl) 163 (.tmp 21) (by rfl) b 0 (by rfl) (w8 H.st) _ F1.out.2.2.2 under8 rfl size8 ?_)
  | (refine wpList_store_row (by rfl) 163 (.tmp 3) (.tmp 22) (by rfl) W1.heap.size (w8 H.st).toArray (by rfl) (by rfl) 163 _ (heap_alloc_new _ _) size8 (by rfl) (by exact all_oneCell_toArray (words_cell _)) ?_; (obtain ⟨W2, hW2⟩ : ∃ W2, W2 = (W1.alloc (.cells z8 163)).setRow W1.heap.size (w8 H.st).toArray := ⟨_, rfl⟩); rw [← hW2]; have F2 := mix_world2 F1.out hW2; clear hW2))
 obtain ⟨g1, hg1⟩ : ∃ g1, g1 = w1.heap.size := ⟨_, rfl⟩
 obtain ⟨g2, hg2⟩ : ∃ g2, g2 = W1.heap.size := ⟨_, rfl⟩
 have F3 : Hid (Below w.heap.size w W2 ∧ W2.heap[g1]? = some (.cells R.toArray 257 (0, 0)) ∧ W2.heap[g2]? = some (.cells (w8 H.st).toArray 163 (0, 0)) ∧ w.heap.size ≤ g1 ∧ w.heap.size ≤ g2 ∧ g1 < g2) := by
  rw [hg1, hg2]; exact ⟨F2.out.1, F2.out.2.1, F2.out.2.2.1, hb1.size, F1.out.1.size, F1.out.2.1⟩
 rw [← hg1, ← hg2]
 clear hg1 hg2 F1 F2 hb1 HT HA HO HSz hz hz8
 have c0 : W2.cell? ⟨g2, 0, none⟩ = some (.int .u64 (U H.st.a)) := w8_cell F3.out.2.2.1 0 (by omega)
 have c1 : W2.cell? ⟨g2, 1, none⟩ = some (.int .u64 (U H.st.b)) := w8_cell F3.out.2.2.1 1 (by omega)
 have c2 : W2.cell? ⟨g2, 2, none⟩ = some (.int .u64 (U H.st.c)) := w8_cell F3.out.2.2.1 2 (by omega)
 have c3 : W2.cell? ⟨g2, 3, none⟩ = some (.int .u64 (U H.st.d)) := w8_cell F3.out.2.2.1 3 (by omega)
 have c4 : W2.cell? ⟨g2, 4, none⟩ = some (.int .u64 (U H.st.e)) := w8_cell F3.out.2.2.1 4 (by omega)
 have c5 : W2.cell? ⟨g2, 5, none⟩ = some (.int .u64 (U H.st.f)) := w8_cell F3.out.2.2.1 5 (by omega)
 have c6 : W2.cell? ⟨g2, 6, none⟩ = some (.int .u64 (U H.st.g)) := w8_cell F3.out.2.2.1 6 (by omega)
 have c7 : W2.cell? ⟨g2, 7, none⟩ = some (.int .u64 (U H.st.h)) := w8_cell F3.out.2.2.1 7 (by omega)
 go_quiet (fail)
 clear c0 c1 c2 c3 c4 c5 c6 c7
 go_wp2_with fail
 go_loopw [4, 5, 6, 7, 8, 9, 10, 11, 39] (fun va vb vc vd ve vf vg vh i wr => ∃ (k : Nat) (s : S8), k ≤ 80 ∧ Hid (s = rnds L H.st k) ∧ i = .int .i64 k ∧ va = .int .u64 (U s.a) ∧ vb = .int .u64 (U s.b) ∧ vc = .int .u64 (U s.c) ∧ vd = .int .u64 (U s.d) ∧
   ve = .int .u64 (U s.e) ∧ vf = .int .u64 (U s.f) ∧ vg = .int .u64 (U s.g) ∧ vh = .int .u64 (U s.h) ∧
   Hid (Below w.heap.size w wr ∧ wr.heap[g1]? = some (.cells R.toArray 257 (0, 0)) ∧ wr.heap[g2]? = some (.cells (w8 H.st).toArray 163 (0, 0)) ∧ w.heap.size ≤ g1 ∧ w.heap.size ≤ g2 ∧ g1 < g2)) (fun _ _ _ _ _ _ _ _ i _ => 80 - (intOf i).toNat)
 case atStart => exact ⟨0, H.st, Nat.zero_le _, rfl, rfl, rfl, rfl, rfl, rfl, rfl, rfl, rfl, rfl, ⟨⟨F3.out.1.os, F3.out.1.tape, F3.out.1.output, F3.out.1.size, F3.out.1.block⟩, F3.out.2⟩⟩
 case round =>
  clear F3
  obtain ⟨k, s, hk, hs, rfl, rfl, rfl, rfl, rfl, rfl, rfl, rfl, rfl, F3⟩ := hrel
  by_cases hlt : k < 80
  ·
   have bk : (k : Int) < 80 := by omega
   have hck : wr.cell? ⟨9, k, none⟩ = some (.int .u64 (U (kw k))) := HK.out.below F3.out.1 (by have := HK.out.lt; omega) k hlt
   have hcw : wr.cell? ⟨g1, k, none⟩ = some (.int .u64 (U (L.getD k 0))) := by
    have := F3.out.2.1; rw [HR.out] at this
    exact wcell this k (by rw [HLL.out]; exact hlt)
   generalize hww : L.getD k 0 = ww at hcw
   have HN : Hid (stepW (kw k) ww s = rnds L H.st (k + 1)) := by show _ = _; rw [rnds_succ, hs.out, ← hww]
   clear hww
   generalize kw k = kk at *
   go_wp2_with fail
   go_quiet (first | (go_at_call 154; exact Calls.quiet_of_same (bigSigma1_any _ _)) | (go_at_call 155; exact Calls.quiet_of_same (choose_any _ _ _ _)))
   go_wp2_with (first | (go_at_call 156; refine (bigSigma0_any _ _).mono ?_; rintro e w' ⟨rfl, rfl⟩) | (go_at_call 157; refine (majority_any _ _ _ _).mono ?_; rintro e w' ⟨rfl, rfl⟩))
   go_roundw
   case rel => exact ⟨k + 1, stepW kk ww s, by omega, HN.out, by go_num, rfl, rfl, rfl, rfl, rfl, rfl, rfl, rfl, ⟨⟨F3.out.1.os, F3.out.1.tape, F3.out.1.output, F3.out.1.size, F3.out.1.block⟩, F3.out.2⟩⟩
   case measure => simp [intOf]; omega
  ·
   have hk80 : k = 80 := by omega
   have hk' : (80 : Int) ≤ (k : Int) := by omega
   have hs' : Hid (s = rnds L H.st 80) := by have := hs.out; rw [hk80] at this; exact this
   clear hs hk80 hlt hk
   go_wp2_with fail
   have HG : Hid (w.heap.size ≤ g2) := F3.out.2.2.2.2.1
   go_loopw [88] (fun i wr => ∃ j : Nat, j ≤ 8 ∧ i = .int .i64 j ∧ Hid (wr.heap[b]? = some (.cells (rowLH (addTo H.st s j) H).toArray T (0, 0))) ∧ Hid (wr.heap[g2]? = some (.cells (w8 H.st).toArray 163 (0, 0))) ∧ Hid (Turn b w wr)) (fun i _ => 8 - (intOf i).toNat)
   case atStart => exact ⟨0, Nat.zero_le _, rfl, by rw [← row_start]; exact (F3.out.1.block b hb).trans HH.out.heap, F3.out.2.2.1, Turn.of_below F3.out.1⟩
   case round =>
    clear F3
    obtain ⟨j, hj, rfl, hr, hr2, ht⟩ := hrel
    by_cases hlt : j < 8
    ·
     have bj : (j : Int) < 8 := by omega
     have hidx := index8 s j hlt
     have hc2 := w8_cell hr2.out j hlt
     have hcb : wr.cell? ⟨b, j, none⟩ = some (.int .u64 (U ((addTo H.st s j).getD j 0))) := (cell_of_row wr b j _ _ _ hr.out).trans (by simpa using rowL_get (addTo H.st s j) H j (by rw [addTo_length]; exact hlt))
     have hfb := frozen_of_row wr b j _ _ hr.out
     have hne : b ≠ g2 := by have := HG.out; omega
     generalize hold : H.st.words.getD j 0 = x at hc2
     generalize hnew : s.words.getD j 0 = y at hidx
     generalize (addTo H.st s j).getD j 0 = y0 at hcb
     have HX : Hid (H.st.words.getD j 0 + s.words.getD j 0 = x + y) := by show _ = _; rw [hold, hnew]
     clear hold hnew hk'
     go_wp2_with fail
     go_region_held3 (fun w' => w'.cell? ⟨g2, j, none⟩ = some (.int .u64 (U x))) (first | exact cell_store_other hc2 hne | go_keep) (fail)
     go_wp2
     go_roundw
     case rel =>
      refine ⟨j + 1, by omega, by go_num, ?_, row_store_far _ _ hr2.out (Ne.symm hne), (ht.out.setCell rfl _).drew⟩
      have e := row_store hr.out j (uv (x + y))
      rw [rowL_set _ _ _ (by rw [addTo_length]; exact hlt)] at e
      rw [addTo_succ, HX.out]
      exact e
     case measure => simp [intOf]; omega
    ·
     have hj8 : j = 8 := by omega
     have hj' : (8 : Int) ≤ (j : Int) := by omega
     rw [hj8] at hr
     clear hj8 hj hlt hk'
     go_wp2_with fail
     go_end0
     refine ⟨rfl, ⟨?_, by rw [blk_mix]; exact HH.out.len⟩, ht.out⟩
     rw [row_mix H L HL.out, ← hs'.out, ← addTo_all]
     exact hr.out
end
end Go.Proofs.YtccgfabojbjmjaaGreatDoor
