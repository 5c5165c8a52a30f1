import Derived.Test.YtccgfabojbjmjaaGreatDoorSg27
import Derived.Test.YtccgfabojbjmjaaGreatDoorSg28
import Derived.Deep.AppendLies
import Derived.Deep.RegionHeld3
import Derived.Deep.DrawnRows
import Derived.BigRegion
import Derived.Test.YtccgfabojbjmjaaGreatDoorSg21
namespace Go.Proofs.YtccgfabojbjmjaaGreatDoor
open Go.RowKit
theorem fc0' (r : Nat) : (fd r).getD 0 0 = ((r % 67108864 : Nat) : Int) := by rw [fd_get r 0 (by decide), Nat.pow_zero, Nat.div_one]
def codeD (p : Q3) : ByteArray := qaL (leB (qcj (mP p.y (qcq p.z)) (decide (mP p.x (qcq p.z) % 2 = 1))) 32)
section
attribute [local irreducible] fA fL qA
set_option maxRecDepth 100000 in
set_option maxHeartbeats 4000000 in
theorem codeA (p : Q3) (hp : p.Ok) (w : World) :
  Calls Tryz.prog 36 #[.agg (qA p)] w fun e w' => e = .returned (.string (codeD p)) ∧ Below w.heap.size w w' := by
 have hz := qcy
 have Hp := qaf hp
 clear hp
 go_enter Tryz.func36, Tryz.ntmps36
 go_upto_region 1 with fail
 obtain ⟨W0, hW0⟩ : ∃ W, W = w.alloc (.cells (qA p) 98) := ⟨_, rfl⟩
 have RP : Hid (W0.heap[w.heap.size]? = some (.cells (qA p) 98 (0, 0))) := by rw [hW0]; exact heap_alloc_new _ _
 have BL : Hid (Below w.heap.size w W0) := by rw [hW0]; show Below _ _ _; go_grown
 rw [← hW0]
 clear hW0
 go_wp2_with (first | (refine wpList_load_mid (by rfl) 95 (.tmp 6) (by rfl) (w.heap.size) 20 (by rfl) (fL p.z) _ (qcO RP.out).2.2 qaD rfl (qc5 _) ?_))
 simp only [foldL]
 refine (inverseA p.z Hp.out.z _).mono ?_
 rintro e W1 ⟨rfl, hB1⟩
 have RP := qaf (qaa RP.out hB1)
 have BL := kTr BL hB1
 clear hB1
 obtain ⟨i, Ei⟩ : ∃ x, Hid (x = qcq p.z) := ⟨_, rfl⟩
 have Hi : Hid (i < P) := by rw [Ei.out]; exact qek _
 rw [← Ei.out]
 go_upto_region 2 with (first | (refine wpList_store_row (by rfl) 95 (.tmp 3) (.tmp 8) (by rfl) W1.heap.size (fA i) (by rfl) (by rfl) 95 _ (heap_alloc_new _ _) (qat _) (qaU _ _) (qaS _) ?_))
 obtain ⟨g3, hg3⟩ : ∃ q, q = W1.heap.size := ⟨_, rfl⟩
 obtain ⟨W2, hW2⟩ : ∃ W, W = (W1.alloc (.cells (fA 0) 95)).setRow W1.heap.size (fA i) := ⟨_, rfl⟩
 have lRPg3 : w.heap.size < g3 := by rw [hg3]; exact qae RP.out
 have RP' : Hid (W2.heap[w.heap.size]? = some (.cells (qA p) 98 (0, 0))) := by rw [hW2]; exact (setRow_other _ _ _ _ (by omega)).trans ((heap_alloc_old _ _ (by omega)).trans RP.out)
 have RI : Hid (W2.heap[g3]? = some (.cells (fA i) 95 (0, 0))) := by rw [hW2, hg3]; exact setRow_heap _ _ _ _ _ _ (heap_alloc_new _ _)
 have BL' : Hid (Below w.heap.size w W2) := by rw [hW2]; exact below_setRow (BL.out.alloc BL.out.size _) BL.out.size _
 rw [← hW2, ← hg3]
 clear hW2 hg3 BL RP
 have RP := RP'
 have BL := BL'
 clear RP' BL'
 go_wp2_with (first | (refine wpList_load_mid (by rfl) 95 (.tmp 9) (by rfl) (w.heap.size) 0 (by rfl) (fL p.x) _ (qcO RP.out).1 qaD rfl (qc5 _) ?_) | (refine wpList_load_row (by rfl) 95 (.tmp 3) (by rfl) (g3) (by rfl) 95 (fA i) (0, 0) _ RI.out qaD rfl (qat _) ?_))
 simp only [foldL]
 refine (qd1 p.x i Hp.out.x Hi.out _).mono ?_
 rintro e W3 ⟨rfl, hB3⟩
 have RP := qaf (qaa RP.out hB3)
 have RI := qaf (qaa RI.out hB3)
 have BL := kTr BL hB3
 clear hB3
 obtain ⟨x, Ex⟩ : ∃ x, Hid (x = mP p.x i) := ⟨_, rfl⟩
 have Hx : Hid (x < P) := by rw [Ex.out]; exact qaB _ _
 rw [← Ex.out]
 go_upto_region 3 with (first | (refine wpList_store_row (by rfl) 95 (.tmp 4) (.tmp 12) (by rfl) W3.heap.size (fA x) (by rfl) (by rfl) 95 _ (heap_alloc_new _ _) (qat _) (qaU _ _) (qaS _) ?_))
 obtain ⟨g4, hg4⟩ : ∃ q, q = W3.heap.size := ⟨_, rfl⟩
 obtain ⟨W4, hW4⟩ : ∃ W, W = (W3.alloc (.cells (fA 0) 95)).setRow W3.heap.size (fA x) := ⟨_, rfl⟩
 have lRPg4 : w.heap.size < g4 := by rw [hg4]; exact qae RP.out
 have lRIg4 : g3 < g4 := by rw [hg4]; exact qae RI.out
 have RP' : Hid (W4.heap[w.heap.size]? = some (.cells (qA p) 98 (0, 0))) := by rw [hW4]; exact (setRow_other _ _ _ _ (by omega)).trans ((heap_alloc_old _ _ (by omega)).trans RP.out)
 have RI' : Hid (W4.heap[g3]? = some (.cells (fA i) 95 (0, 0))) := by rw [hW4]; exact (setRow_other _ _ _ _ (by omega)).trans ((heap_alloc_old _ _ (by omega)).trans RI.out)
 have RX : Hid (W4.heap[g4]? = some (.cells (fA x) 95 (0, 0))) := by rw [hW4, hg4]; exact setRow_heap _ _ _ _ _ _ (heap_alloc_new _ _)
 have BL' : Hid (Below w.heap.size w W4) := by rw [hW4]; exact below_setRow (BL.out.alloc BL.out.size _) BL.out.size _
 rw [← hW4, ← hg4]
 clear hW4 hg4 BL RP RI
 have RP := RP'
 have RI := RI'
 have BL := BL'
 clear RP' RI' BL'
 go_wp2_with (first | (refine wpList_load_mid (by rfl) 95 (.tmp 13) (by rfl) (w.heap.size) 10 (by rfl) (fL p.y) _ (qcO RP.out).2.1 qaD rfl (qc5 _) ?_) | (refine wpList_load_row (by rfl) 95 (.tmp 3) (by rfl) (g3) (by rfl) 95 (fA i) (0, 0) _ RI.out qaD rfl (qat _) ?_))
 simp only [foldL]
 refine (qd1 p.y i Hp.out.y Hi.out _).mono ?_
 rintro e W5 ⟨rfl, hB5⟩
 have RP := qaf (qaa RP.out hB5)
 have RI := qaf (qaa RI.out hB5)
 have RX := qaf (qaa RX.out hB5)
 have BL := kTr BL hB5
 clear hB5
 obtain ⟨y, Ey⟩ : ∃ x, Hid (x = mP p.y i) := ⟨_, rfl⟩
 have Hy : Hid (y < P) := by rw [Ey.out]; exact qaB _ _
 rw [← Ey.out]
 go_upto_region 4 with (first | (refine wpList_store_row (by rfl) 95 (.tmp 5) (.tmp 16) (by rfl) W5.heap.size (fA y) (by rfl) (by rfl) 95 _ (heap_alloc_new _ _) (qat _) (qaU _ _) (qaS _) ?_))
 obtain ⟨g5, hg5⟩ : ∃ q, q = W5.heap.size := ⟨_, rfl⟩
 obtain ⟨W6, hW6⟩ : ∃ W, W = (W5.alloc (.cells (fA 0) 95)).setRow W5.heap.size (fA y) := ⟨_, rfl⟩
 have lRPg5 : w.heap.size < g5 := by rw [hg5]; exact qae RP.out
 have lRIg5 : g3 < g5 := by rw [hg5]; exact qae RI.out
 have lRXg5 : g4 < g5 := by rw [hg5]; exact qae RX.out
 have RP' : Hid (W6.heap[w.heap.size]? = some (.cells (qA p) 98 (0, 0))) := by rw [hW6]; exact (setRow_other _ _ _ _ (by omega)).trans ((heap_alloc_old _ _ (by omega)).trans RP.out)
 have RI' : Hid (W6.heap[g3]? = some (.cells (fA i) 95 (0, 0))) := by rw [hW6]; exact (setRow_other _ _ _ _ (by omega)).trans ((heap_alloc_old _ _ (by omega)).trans RI.out)
 have RX' : Hid (W6.heap[g4]? = some (.cells (fA x) 95 (0, 0))) := by rw [hW6]; exact (setRow_other _ _ _ _ (by omega)).trans ((heap_alloc_old _ _ (by omega)).trans RX.out)
 have RY : Hid (W6.heap[g5]? = some (.cells (fA y) 95 (0, 0))) := by rw [hW6, hg5]; exact setRow_heap _ _ _ _ _ _ (heap_alloc_new _ _)
 have BL' : Hid (Below w.heap.size w W6) := by rw [hW6]; exact below_setRow (BL.out.alloc BL.out.size _) BL.out.size _
 rw [← hW6, ← hg5]
 clear hW6 hg5 BL RP RI RX
 have RP := RP'
 have RI := RI'
 have RX := RX'
 have BL := BL'
 clear RP' RI' RX' BL'
 clear hz
 have cx := qaP (l := fd x) (T := 95) (fr := (0, 0)) (by have e := RX.out; unfold fA at e; exact e) 0 (by rw [qaH]; decide)
 obtain ⟨z, HZ⟩ : ∃ z, Hid (z = (fd x).getD 0 0) := ⟨_, rfl⟩
 rw [← HZ.out] at cx
 have z0 : 0 ≤ z := by rw [HZ.out, fc0']; omega
 have hodd : (z % 2 == 1) = decide (x % 2 = 1) := by
  rw [HZ.out, fc0']
  by_cases h : x % 2 = 1
  · rw [decide_eq_true h, beq_iff_eq]; omega
  · rw [decide_eq_false h, beq_eq_false_iff_ne]; omega
 obtain ⟨ob, Eo⟩ : ∃ b, Hid (b = decide (x % 2 = 1)) := ⟨_, rfl⟩
 rw [← Eo.out] at hodd
 go_wp2_with (first | (refine wpList_load_row (by rfl) 95 (.tmp 5) (by rfl) (g5) (by rfl) 95 (fA y) (0, 0) _ RY.out qaD rfl (qat _) ?_))
 refine (textA y ob Hy.out _).mono ?_
 rintro e W7 ⟨rfl, hB7⟩
 have RP := qaf (qaa RP.out hB7)
 have RI := qaf (qaa RI.out hB7)
 have RX := qaf (qaa RX.out hB7)
 have RY := qaf (qaa RY.out hB7)
 have BL := kTr BL hB7
 clear hB7
 obtain ⟨T, HT⟩ : ∃ T, Hid (T = qaL (leB (qcj y ob) 32)) := ⟨_, rfl⟩
 rw [← HT.out]
 go_wp2_with fail
 go_ret
 exact ⟨by rw [HT.out, Eo.out, Ey.out, Ex.out, Ei.out]; rfl, BL.out⟩
end
def sumTo (ws : List (BitVec 64)) (k : Nat) : List UInt8 := (ws.take k).flatMap be8 ++ List.replicate (64 - 8 * k) 0
theorem qdR (x : BitVec 64) : (be8 x).length = 8 := rfl
theorem qci (ws : List (BitVec 64)) : (ws.flatMap be8).length = 8 * ws.length := by
 induction ws with
 | nil => rfl
 | cons x l ih => simp only [List.flatMap_cons, List.length_append, ih, qdR, List.length_cons]; omega
theorem sumTo_length (ws : List (BitVec 64)) (k : Nat) (hw : ws.length = 8) (hk : k ≤ 8) : (sumTo ws k).length = 64 := by
 unfold sumTo; rw [List.length_append, qci, List.length_take, List.length_replicate]; omega
theorem layB_cv (l : List UInt8) (off : Nat) (x : BitVec 64) (k : Nat) : lay (l.map cv) off x k = (layB l off x k).map cv := by
 induction k with
 | zero => rfl
 | succ k ih => simp only [lay, layB, ih, List.map_set]
theorem sumTo_step (ws : List (BitVec 64)) (k : Nat) (hw : ws.length = 8) (hk : k < 8) : layB (sumTo ws k) (8 * k) (ws.getD k 0) 8 = sumTo ws (k + 1) := by
 rw [layB_all _ _ _ (by rw [sumTo_length ws k hw (by omega)]; omega)]
 have hl : ((ws.take k).flatMap be8).length = 8 * k := by rw [qci, List.length_take]; omega
 have e1 : (sumTo ws k).take (8 * k) = (ws.take k).flatMap be8 := by
  unfold sumTo; rw [List.take_append_of_le_length (by omega)]; exact List.take_of_length_le (by omega)
 have e2 : (sumTo ws k).drop (8 * k + 8) = List.replicate (64 - 8 * (k + 1)) 0 := by
  unfold sumTo; rw [List.drop_append, List.drop_eq_nil_of_le (by omega), hl, List.drop_replicate, List.nil_append]
  congr 1; omega
 rw [e1, e2]
 unfold sumTo
 have e3 : ws.take (k + 1) = ws.take k ++ [ws.getD k 0] := by
  rw [List.take_succ_eq_append_getElem (by omega)]; simp [List.getD, List.getElem?_eq_getElem (show k < ws.length by omega)]
 rw [e3, List.flatMap_append, List.append_assoc]
 simp
noncomputable def HS.sum (H : HS) : List UInt8 := H.ended.st.words.flatMap be8
theorem HS.sum_length (H : HS) : H.sum.length = 64 := by unfold HS.sum; rw [qci]; rfl
theorem sumTo_all (H : HS) : sumTo H.ended.st.words 8 = H.sum := by
 unfold sumTo HS.sum
 rw [List.take_of_length_le (by rw [S8.words_length]; exact Nat.le_refl _)]; simp
theorem under64H : Tryz.prog.underlying 102 = some (.array 64 5) := by kernel_rfl
theorem size64H : (Tryz.prog.info? 102).map (·.size) = some 64 := by kernel_rfl
theorem underH : ∃ fs, Tryz.prog.underlying 166 = some (.struct fs) := ⟨_, Tryz.underlying166⟩
theorem sizeH : (Tryz.prog.info? 166).map (·.size) = some 138 := by kernel_rfl
def z64H : Array Value := ((List.replicate 64 (0 : UInt8)).map cv).toArray
theorem zero64 (w : World) : (zeroValue 102).run Tryz.prog w = .ok (.agg z64H) w := by kernel_rfl
def zH : Array Value := (HS.row ⟨⟨0, 0, 0, 0, 0, 0, 0, 0⟩, List.replicate 128 0, 0⟩).toArray
theorem zeroH (w : World) : (zeroValue 166).run Tryz.prog w = .ok (.agg zH) w := by kernel_rfl
theorem slice64 (b o : Nat) (z : Int) (l : Nat) (hz : z = l) (hl : l < 64) (w : World) :
  (Instr.sliceAt 102 (.pointer (some ⟨b, o, none⟩)) (some (.int .i64 z)) none none).run Tryz.prog w = .ok (.slice (some ⟨b, o + l, none⟩) (64 - l) (64 - l)) w := by
 subst hz
 have h1 : ((l : Int) ≤ 64) := by omega
 have h2 : ¬ 64 = l := by omega
 cases hq : Tryz.prog.info? 5 with
 | none => have := qdG; rw [hq] at this; cases this
 | some i =>
  have hi : i.size = 1 := by have := qdG; rw [hq] at this; simpa using this
  simp [Instr.sliceAt, Instr.sureAddr, run_underlying under64H, Instr.sliceBounds, run_sliceBound, sizeOf, typeInfo, hq, hi, h1, h2, Addr.add]
theorem index8w (s : S8) (j : Nat) (hj : j < 8) : ∀ w, (Instr.index 163 (.agg (w8 s).toArray) (.int .i64 j)).run Tryz.prog w = .ok (.int .u64 (U (s.words.getD j 0))) w := index8 s j hj
theorem row_cell (H : HS) : ∀ v ∈ H.row, v.oneCell' = true := by
 intro v hv
 unfold HS.row at hv
 rcases List.mem_append.1 hv with h | h
 · obtain ⟨x, _, rfl⟩ := List.mem_map.1 h; rfl
 ·
  rcases List.mem_append.1 h with h | h
  · obtain ⟨x, _, rfl⟩ := List.mem_map.1 h; rfl
  · simp at h; rcases h with rfl | rfl <;> rfl
theorem cvs_cell (l : List UInt8) : ∀ v ∈ l.map cv, v.oneCell' = true := by
 intro v hv; obtain ⟨x, _, rfl⟩ := List.mem_map.1 hv; rfl
theorem has_range {w : World} {b : Nat} {T : TypeId} {H : HS} (h : Has w b T H) : w.rangeAt b 0 (w8 H.st) := by
 intro j v hv
 have hj : j < 8 := by
  rcases Nat.lt_or_ge j 8 with g | g
  · exact g
  · rw [List.getElem?_eq_none (by simpa [w8, S8.words] using g)] at hv; cases hv
 rw [Nat.zero_add, h.cell j]
 unfold HS.row; rw [List.getElem?_append_left (by simpa [S8.words] using hj)]; exact hv
section
attribute [local go_sem] U_and U_or qej U_not U_add qbC
attribute [local go_sem ↓] Go.wp_at_zero Go.wp_at_succ
set_option maxRecDepth 100000 in
set_option maxHeartbeats 4000000 in
theorem sum_any (b : Nat) (T : TypeId) (H : HS) (w : World) (h : Has w b T H) (hK : Tab w) :
  Calls Tryz.prog 83 #[.pointer (some ⟨b, 0, none⟩)] w fun e w' => e = .returned (.agg (H.sum.map cv).toArray) ∧ Below w.heap.size w w' := by
 have hz := zero64
 have hzH := zeroH
 have HH : Hid (Has w b T H) := h
 have HK : Hid (Tab w) := hK
 have hb : b < w.heap.size := h.lt
 obtain ⟨fs, huH⟩ := underH
 have HU : Hid (Tryz.prog.underlying 166 = some (.struct fs)) := huH
 clear h hK huH
 obtain ⟨R, HR⟩ : ∃ R, Hid (R = H.row) := ⟨_, rfl⟩
 have hRl : R.length = 138 := by rw [HR.out]; exact H.row_length HH.out.len
 have HSz : Hid ((Tryz.prog.info? 166).map (·.size) = some R.toArray.size) := by show _ = _; rw [sizeH]; simp [hRl]
 have HO : Hid (zH.size = R.toArray.size) := by show _ = _; simp [hRl]; rfl
 have HA : Hid (R.toArray.all (·.oneCell') = true) := by rw [HR.out]; exact all_oneCell_toArray (row_cell H)
 have HG : Hid ((w.alloc (.cells z64H 102)).heap[b]? = some (.cells R.toArray T (0, 0))) := by
  rw [HR.out]; exact (heap_alloc_old w _ hb).trans HH.out.heap
 clear hRl
 go_enter Tryz.func83, Tryz.ntmps83
 go_wp2_with (first
  | (refine wpList_load_row (by rfl) 166 (.tmp 8) (by rfl) b (by rfl) T R.toArray (0, 0) _ HG.out HU.out rfl HSz.out ?_)
  | (refine wpList_store_row (by rfl) 166 (.tmp 3) (.tmp 9) (by rfl) (w.heap.size + 1) R.toArray (by rfl) (by rfl) 166 _ (heap_alloc2_new _ _ _) HSz.out HO.out HA.out ?_))
 obtain ⟨W1, hW1⟩ : ∃ W1, W1 = ((w.alloc (.cells z64H 102)).alloc (.cells zH 166)).setRow (w.heap.size + 1) R.toArray := ⟨_, rfl⟩
 rw [← hW1]
 obtain ⟨g, hg⟩ : ∃ g, g = w.heap.size + 1 := ⟨_, rfl⟩
 rw [← hg]
 have hgs : w.heap.size < g := by omega
 have hA1 : Has W1 g 166 H := by
  refine ⟨?_, HH.out.len⟩
  rw [hW1, hg, setRow_heap _ _ _ _ _ _ (heap_alloc2_new _ _ _), HR.out]
 have hB1 : Below w.heap.size w W1 := by
  rw [hW1]; exact below_setRow (((Below.refl _ _).alloc (Nat.le_refl _) _).alloc (by simp) _) (by omega) _
 have hR1 : W1.heap[w.heap.size]? = some (.cells z64H 102 (0, 0)) := by
  rw [hW1, setRow_other _ _ _ _ (by omega)]; exact heap_alloc2_old _ _ _
 clear hW1 hg HG HA HO HSz HU HR hz hzH
 refine (putEnd_any g 166 H W1 hA1 (HK.out.below hB1 (by have := HK.out.lt; omega)) (by have := HK.out.lt; omega)).mono ?_
 rintro e W2 ⟨rfl, hA2, hT2⟩
 have hB2 : Hid (Below w.heap.size w W2) := hB1.trans (hT2.below (by omega) hB1.size)
 have hR2 : Hid (W2.heap[w.heap.size]? = some (.cells z64H 102 (0, 0))) := (hT2.block _ (by have := hA1.lt; omega) (by omega)).trans hR1
 have hA2' : Hid (W2.rangeAt g 0 (w8 H.ended.st)) := has_range hA2
 have hg2 : g < W2.heap.size := hA2.lt
 clear hA1 hB1 hR1 hA2 hT2
 obtain ⟨S, HS'⟩ : ∃ S, Hid (S = H.ended.st) := ⟨_, rfl⟩
 rw [← HS'.out] at hA2'
 have hz := zero64
 have HRA : Hid ((W2.alloc (.cells z64H 102)).rangeAt g 0 (w8 S)) := World.rangeAt_alloc hA2'.out _
 go_wp2_with (first | (refine wpList_load_mid (by rfl) 163 (.tmp 11) (by rfl) g 0 (by rfl) (w8 S) _ HRA.out under8 rfl size8 ?_))
 clear hz HRA
 obtain ⟨q, hq⟩ : ∃ q, q = W2.heap.size := ⟨_, rfl⟩
 rw [← hq]
 go_loopw [13] (fun i wr => ∃ k : Nat, k ≤ 8 ∧ i = .int .i64 k ∧ Hid (wr.heap[q]? = some (.cells ((sumTo S.words k).map cv).toArray 102 (0, 0))) ∧ Hid (wr.heap[w.heap.size]? = some (.cells z64H 102 (0, 0))) ∧ Hid (Below w.heap.size w wr)) (fun i _ => 8 - (intOf i).toNat)
 case atStart => exact ⟨0, Nat.zero_le _, rfl, by rw [hq]; exact heap_alloc_new W2 _, (heap_alloc_old W2 _ (by omega)).trans hR2.out, hB2.out.alloc (by omega) _⟩
 case round =>
  have hqs : Hid (w.heap.size < q) := by rw [hq]; show _ < _; omega
  clear hR2 hB2 hA2' hg2 hgs hq
  obtain ⟨k, hk, rfl, hr, hr0, hbel⟩ := hrel
  by_cases hlt : k < 8
  ·
   have bk : (k : Int) < 8 := by omega
   have hidx := index8w S k hlt
   have hsl := slice64 q 0 (8 * (k : Int)) (8 * k) (by omega) (by omega)
   generalize hx : S.words.getD k 0 = x at hidx
   have HX : Hid (S.words.getD k 0 = x) := hx
   clear hx
   go_wp2_with fail
   refine (qb1 q (8 * k) (64 - 8 * k) (64 - 8 * k) 102 _ x wr (by omega) (by omega) hr.out (by rw [List.length_map, sumTo_length _ _ (S8.words_length S) hk]; omega)).mono ?_
   rintro e V ⟨rfl, hrow, hturn⟩
   have hrow' : Hid (V.heap[q]? = some (.cells ((sumTo S.words (k + 1)).map cv).toArray 102 (0, 0))) := by
    have e := hrow
    rw [layB_cv, ← HX.out, sumTo_step _ _ (S8.words_length S) hlt] at e
    exact e
   have hr0' : Hid (V.heap[w.heap.size]? = some (.cells z64H 102 (0, 0))) := (hturn.block _ (by rcases Nat.lt_or_ge w.heap.size wr.heap.size with g | g; exact g; have := hr0.out; rw [Array.getElem?_eq_none g] at this; cases this) (by have := hqs.out; omega)).trans hr0.out
   have hbel' : Hid (Below w.heap.size w V) := hbel.out.trans (hturn.below (by have := hqs.out; omega) hbel.out.size)
   clear hrow hturn hr hr0 hbel
   go_wp2_with fail
   go_roundw
   case rel => exact ⟨k + 1, by omega, by go_num, hrow', hr0', hbel'⟩
   case measure => simp [intOf]; omega
  ·
   have hk8 : k = 8 := by omega
   have hk' : (8 : Int) ≤ (k : Int) := by omega
   obtain ⟨M, HM⟩ : ∃ M, Hid (M = (H.sum.map cv)) := ⟨_, rfl⟩
   have hr' : Hid (wr.heap[q]? = some (.cells M.toArray 102 (0, 0))) := by
    have := hr.out; rw [hk8, HS'.out, sumTo_all, ← HM.out] at this; exact this
   have hMl : M.length = 64 := by rw [HM.out, List.length_map, H.sum_length]
   have HSz : Hid ((Tryz.prog.info? 102).map (·.size) = some M.toArray.size) := by show _ = _; rw [size64H]; simp [hMl]
   have HO : Hid (z64H.size = M.toArray.size) := by show _ = _; simp [hMl]; rfl
   have HA : Hid (M.toArray.all (·.oneCell') = true) := by rw [HM.out]; exact all_oneCell_toArray (cvs_cell _)
   clear hr hk8 hlt hk hMl
   go_wp2_with (first | (refine wpList_load_row (by rfl) 102 (.tmp 4) (by rfl) q (by rfl) 102 M.toArray (0, 0) _ hr'.out under64H rfl HSz.out ?_) | (refine wpList_store_row (by rfl) 102 (.tmp 2) (.tmp 23) (by rfl) w.heap.size M.toArray (by rfl) (by rfl) 102 _ hr0.out HSz.out HO.out HA.out ?_))
   refine bodyPost_ret (v := .agg M.toArray) (results_cell_row Tryz.results83 _ _ w.heap.size 102 M.toArray (0, 0) _ (by rfl) (setRow_heap _ _ _ _ _ _ hr0.out) under64H rfl HSz.out) rfl ⟨by rw [HM.out], below_setRow hbel.out (Nat.le_refl _) _⟩
end
def ivH : S8 := ⟨7640891576956012808#64, 13503953896175478587#64, 4354685564936845355#64, 11912009170470909681#64, 5840696475078001361#64, 11170449401992604703#64, 2270897969802886507#64, 6620516959819538809#64⟩
def H0 : HS := ⟨ivH, List.replicate 128 0, 0⟩
theorem H0_len : H0.blk.length = 128 := by simp [H0]
def r0 : Array Value := H0.row.toArray
theorem built47 : Tryz.prog.built 163 [(0, .int .u64 7640891576956012808), (1, .int .u64 13503953896175478587), (2, .int .u64 4354685564936845355), (3, .int .u64 11912009170470909681), (4, .int .u64 5840696475078001361), (5, .int .u64 11170449401992604703), (6, .int .u64 2270897969802886507), (7, .int .u64 6620516959819538809)] = some (w8 ivH).toArray := by kernel_rfl
theorem built50 : Tryz.prog.built 166 [(0, .agg (w8 ivH).toArray)] = some r0 := by kernel_rfl
theorem qcN {P : Program} {ops : Array Oper} {rest : List Oper} {o : Oper} {a : Act} {w : World} {Q : Exit → Act → World → Prop} (hg : o.guard = none) (t : TypeId) (parts : Array (Nat × Operand)) (ho : o.op = .build t parts) (cells : Array Value)
  (hb : P.built t (parts.map fun (i, x) => (i, a.eval x)).toList = some cells) (h : wpList P ops Q rest (a.put o.dst (.agg cells)) w) : wpList P ops Q (o :: rest) a w :=
 wpList_build hg t parts ho (by rw [hb]; rfl) (by rw [hb]; exact h)
theorem r0_size : (Tryz.prog.info? 166).map (·.size) = some r0.size := by rw [sizeH]; simp [r0, H0.row_length H0_len]
theorem r0_zH : zH.size = r0.size := by
 have h1 : zH.size = 138 := by unfold zH; rw [List.size_toArray]; exact HS.row_length _ (by simp)
 rw [h1]; simp [r0, H0.row_length H0_len]
theorem r0_cell : r0.all (·.oneCell') = true := all_oneCell_toArray (row_cell H0)
section
set_option maxRecDepth 100000 in
set_option maxHeartbeats 4000000 in
theorem new_any (w : World) :
  Calls Tryz.prog 81 #[] w fun e w' => e = .returned (.agg r0) ∧ Below w.heap.size w w' := by
 have hzH := zeroH
 go_enter Tryz.func81, Tryz.ntmps81
 obtain ⟨fs, huH⟩ := underH
 have HU : Hid (Tryz.prog.underlying 166 = some (.struct fs)) := huH
 clear huH
 go_wp2_with (first
  | (refine qcN (by rfl) 163 _ (by rfl) (w8 ivH).toArray (by exact built47) ?_)
  | (refine qcN (by rfl) 166 _ (by rfl) r0 (by exact built50) ?_)
  | (refine wpList_store_row (by rfl) 166 (.tmp 0) (.tmp 2) (by rfl) w.heap.size r0 (by rfl) (by rfl) 166 _ (heap_alloc_new _ _) r0_size r0_zH r0_cell ?_))
 refine bodyPost_ret (v := .agg r0) (results_cell_row Tryz.results81 _ _ w.heap.size 166 r0 (0, 0) _ (by rfl) (setRow_heap _ _ _ _ _ _ (heap_alloc_new _ _)) HU.out rfl r0_size) rfl ⟨rfl, below_setRow ((Below.refl _ _).alloc (Nat.le_refl _) _) (Nat.le_refl _) _⟩
noncomputable def qa5 (l : List UInt8) : List UInt8 := (H0.puts l).sum
theorem qbj (l : List UInt8) : (qa5 l).length = 64 := HS.sum_length _
set_option maxRecDepth 100000 in
set_option maxHeartbeats 4000000 in
theorem of_any (s : ByteArray) (w : World) (hK : Tab w) (hs : s.size ≤ maxLen) :
  Calls Tryz.prog 48 #[.string s] w fun e w' => e = .returned (.agg ((qa5 (qaz s)).map cv).toArray) ∧ Below w.heap.size w w' := by
 have hz := zero64
 have hzH := zeroH
 have HK : Hid (Tab w) := hK
 clear hK
 go_enter Tryz.func48, Tryz.ntmps48
 go_wp2_with (first
  | (go_at_call 81; refine (new_any _).mono ?_; rintro e W1 ⟨rfl, hB1⟩)
  | (refine wpList_store_row (by rfl) 166 (.tmp 3) (.tmp 4) (by rfl) W1.heap.size r0 (by rfl) (by rfl) 166 _ (heap_alloc_new _ _) r0_size r0_zH r0_cell ?_))
 obtain ⟨V, hV⟩ : ∃ V, V = (W1.alloc (.cells zH 166)).setRow W1.heap.size r0 := ⟨_, rfl⟩
 rw [← hV]
 obtain ⟨g, hg⟩ : ∃ g, g = W1.heap.size := ⟨_, rfl⟩
 rw [← hg]
 have hgs : w.heap.size < g := by have := hB1.size; simp at this; omega
 have hBw : Below w.heap.size w W1 := ((Below.refl _ _).alloc (Nat.le_refl _) _).trans (hB1.mono (by simp))
 have hAV : Has V g 166 H0 := ⟨by rw [hV, hg]; exact setRow_heap _ _ _ _ _ _ (heap_alloc_new _ _), H0_len⟩
 have hBV : Below w.heap.size w V := by rw [hV]; exact below_setRow (hBw.alloc (by omega) _) (by omega) _
 have hRV : V.heap[w.heap.size]? = some (.cells z64H 102 (0, 0)) := by
  rw [hV, setRow_other _ _ _ _ (by omega), heap_alloc_old _ _ (by omega), hB1.block _ (by simp)]; exact heap_alloc_new _ _
 have hKV : Tab V := HK.out.below hBV HK.out.lt
 clear hV hg hB1 hBw hz hzH
 refine (write_any g 166 H0 s V hAV hKV (by have := HK.out.lt; omega) hs).mono ?_
 rintro e V2 ⟨rfl, hA2, hT2⟩
 have hB2 : Hid (Below w.heap.size w V2) := hBV.trans (hT2.below (by omega) hBV.size)
 have hR2 : Hid (V2.heap[w.heap.size]? = some (.cells z64H 102 (0, 0))) := (hT2.block _ (by have := hAV.lt; omega) (by omega)).trans hRV
 have hA2' : Hid (Has V2 g 166 (H0.puts (qaz s))) := hA2
 have hK2 : Hid (Tab V2) := hKV.turn hT2 (by have := HK.out.lt; omega)
 clear hAV hBV hRV hKV hA2 hT2
 go_wp2_with fail
 refine (sum_any g 166 _ V2 hA2'.out hK2.out).mono ?_
 rintro e V3 ⟨rfl, hB3⟩
 obtain ⟨M, HM⟩ : ∃ M, Hid (M = ((H0.puts (qaz s)).sum).map cv) := ⟨_, rfl⟩
 rw [← HM.out]
 have hMl : M.length = 64 := by rw [HM.out, List.length_map, HS.sum_length]
 have HSz : Hid ((Tryz.prog.info? 102).map (·.size) = some M.toArray.size) := by show _ = _; rw [size64H]; simp [hMl]
 have HO : Hid (z64H.size = M.toArray.size) := by show _ = _; simp [hMl]; rfl
 have HA : Hid (M.toArray.all (·.oneCell') = true) := by rw [HM.out]; exact all_oneCell_toArray (cvs_cell _)
 have hlt2 : w.heap.size < V2.heap.size := by have := hA2'.out.lt; omega
 have hR3 : Hid (V3.heap[w.heap.size]? = some (.cells z64H 102 (0, 0))) := (hB3.block _ hlt2).trans hR2.out
 have hB3' : Hid (Below w.heap.size w V3) := hB2.out.trans (hB3.mono (by omega))
 clear hB3 hA2' hK2 hR2 hB2 hMl hlt2
 go_wp2_with (first | (refine wpList_store_row (by rfl) 102 (.tmp 2) (.tmp 7) (by rfl) w.heap.size M.toArray (by rfl) (by rfl) 102 _ hR3.out HSz.out HO.out HA.out ?_))
 refine bodyPost_ret (v := .agg M.toArray) (results_cell_row Tryz.results48 _ _ w.heap.size 102 M.toArray (0, 0) _ (by rfl) (setRow_heap _ _ _ _ _ _ hR3.out) under64H rfl HSz.out) rfl ⟨by rw [HM.out]; rfl, below_setRow hB3'.out (Nat.le_refl _) _⟩
end
def zcnt (n : Nat) : Nat := (239 - n % 128) % 128
theorem zcnt_lt (n : Nat) : zcnt n < 128 := Nat.mod_lt _ (by decide)
theorem zcnt_end (n : Nat) : (n + 1 + zcnt n) % 128 = 112 := by unfold zcnt; omega
theorem zcnt_not (n k : Nat) (h : k < zcnt n) : (n + 1 + k) % 128 ≠ 112 := by unfold zcnt at h; omega
def qa0 (n i : Nat) : UInt8 := if i = 15 then UInt8.ofNat (8 * (n % 32)) else UInt8.ofNat (n / 32 / 256 ^ (14 - i) % 256)
def qcA (n j : Nat) : List UInt8 := (List.range 16).map fun i => if 16 - j ≤ i then qa0 n i else 0
theorem qbI (n j : Nat) : (qcA n j).length = 16 := by simp [qcA]
theorem cntRow_set (n j : Nat) (h : j < 16) : (qcA n j).set (15 - j) (qa0 n (15 - j)) = qcA n (j + 1) := by
 apply List.ext_getElem?
 intro i
 unfold qcA
 rw [List.getElem?_set]
 by_cases hi : 15 - j = i
 ·
  subst hi
  have : 15 - j < 16 := by omega
  simp [this]
  intro hh; omega
 ·
  rw [if_neg hi]
  by_cases h16 : i < 16
  ·
   simp [h16]
   split <;> split <;> first | rfl | omega
  · simp [h16]
def padZ (l : List UInt8) (k : Nat) : List UInt8 := l ++ 128 :: List.replicate k 0
def qb9 (l : List UInt8) : List UInt8 := padZ l (zcnt l.length) ++ qcA l.length 16
theorem qbr (l : List UInt8) (k : Nat) : (padZ l k).length = l.length + 1 + k := by simp [padZ]; omega
theorem padZ_succ (l : List UInt8) (k : Nat) : padZ l k ++ [0] = padZ l (k + 1) := by simp [padZ, List.replicate_succ']
def nAt (n j : Nat) : Nat := if j = 0 then n else n / 32 / 256 ^ (j - 1)
def slLen : Value → Nat
 | .slice _ n _ => n
 | _ => 0
theorem infoU8 : (Tryz.prog.info? 5).map (fun i => (i.zero, i.size, i.bytes)) = some (some (.int .u8 0), 1, 1) := by kernel_rfl
theorem conv_own (w : World) (s : ByteArray) (hs : s.size ≤ 140737488351744) : ∃ cap W1, (convert 9 89 (.string s)).run Tryz.prog w = .ok (.slice (some ⟨w.heap.size, 0, none⟩) s.size cap) W1 ∧
  Hid (Own W1 w.heap.size 5 (.slice (some ⟨w.heap.size, 0, none⟩) s.size cap) ((qaz s).map cv)) ∧ Hid (Below w.heap.size w W1) := by
 refine ⟨_, _, run_bytes_of_string (P := Tryz.prog) w 9 89 5 s (by kernel_rfl) qcH (by kernel_rfl), ?_, (Below.refl _ _).drew.alloc (Nat.le_refl _) _⟩
 have hge := grownCap_ge w s.size 0 5
 have hsz : s.data.size = s.size := rfl
 refine .inr ⟨w.heap.size, _, _, _, by rw [List.length_map, qaQ], Nat.le_refl _, heap_alloc_new w.drew _, .inr (Nat.le_refl _), by rw [List.length_map, qaQ]; exact hge, grownCap_le_maxLen w s.size 0 _ (by unfold maxLen; omega), ?_, ?_⟩
 · simp only [bytesRow, Array.size_append, Array.size_map, Array.size_replicate]; omega
 ·
  rw [List.length_map, qaQ]
  simp only [bytesRow, Array.toList_append, Array.toList_map]
  rw [List.take_append_of_le_length (by simp)]
  exact List.take_of_length_le (by simp)
theorem cvs_at {w : World} {g : Nat} {t : TypeId} {l : List UInt8} {fr : Nat × Nat} (h : w.heap[g]? = some (.cells (l.map cv).toArray t fr)) (i : Nat) (hi : i < l.length) : w.cell? ⟨g, i, none⟩ = some (.int .u8 (C8 (l.getD i 0))) := by
 rw [cell_of_row w g i _ t fr h]; simp [hi]
theorem cnt_step {w : World} {q p' j n : Nat} {t : TypeId} (h : w.heap[q]? = some (.cells ((qcA n j).map cv).toArray t (0, 0))) (hp : p' + 1 + j = 16) :
  (w.setCell ⟨q, p', none⟩ (cv (qa0 n p'))).heap[q]? = some (.cells ((qcA n (j + 1)).map cv).toArray t (0, 0)) := by
 have e := qaA h p' (cv (qa0 n p'))
 have e2 := cntRow_set n j (by omega)
 rw [show 15 - j = p' by omega] at e2
 rw [← List.map_set, e2] at e
 exact e
def z16 : Array Value := ((qcA 0 0).map cv).toArray
theorem make16 (w : World) : (Instr.makeSlice 89 (.int .i64 16) (.int .i64 16)).run Tryz.prog w = .ok (.slice (some ⟨w.heap.size, 0, none⟩) 16 16) (w.alloc (.cells z16 5)) := by kernel_rfl
section
set_option maxRecDepth 100000 in
set_option maxHeartbeats 4000000 in
theorem padded_any (s : ByteArray) (w : World) (hs : s.size ≤ 140737488351744) :
  Calls Tryz.prog 103 #[.string s] w fun e w' => ∃ g cap, e = .returned (.slice (some ⟨g, 0, none⟩) (qb9 (qaz s)).length cap) ∧ w.heap.size ≤ g ∧ (qb9 (qaz s)).length ≤ cap ∧ cap ≤ maxLen ∧ g < w'.heap.size ∧
   (∀ i, i < (qb9 (qaz s)).length → w'.cell? ⟨g, i, none⟩ = some (.int .u8 (C8 ((qb9 (qaz s)).getD i 0)))) ∧ Below w.heap.size w w' := by
 obtain ⟨cap0, W1, hcv, hO1, hB1⟩ := conv_own w s hs
 obtain ⟨i0, hi, hz0, hz1, hz2⟩ := info_parts infoU8
 have HI := qaf hi
 have HZ0 := qaf hz0
 have HZ1 := qaf hz1
 have HZ2 := qaf hz2
 clear hi hz0 hz1 hz2
 obtain ⟨Z, hZ⟩ : ∃ Z, Z = zcnt s.size := ⟨_, rfl⟩
 have hZl : Z < 128 := by rw [hZ]; exact zcnt_lt _
 have HZ : Hid (Z = zcnt s.size) := hZ
 clear hZ
 go_enter Tryz.func103, Tryz.ntmps103
 go_wp2_with (first | (at_builtin; refine qa4 _ (by rfl) (.tmp 10) (.tmp 11) 89 (by rfl) w.heap.size 5 i0 (.int .u8 0) 1 qcH HI.out HZ0.out HZ1.out HZ2.out rfl _ _ (by rfl) (hO1.out.alloc _) ⟨W1.heap.size, 0, none⟩ 1 1 [.int .u8 128] (by rfl) rfl (cell_one_new _ _ _) (by intro u hu; simp at hu; subst hu; rfl) (by simp [qaQ, maxLen]; omega) (by simp [qaQ]; omega) (by have := hB1.out.size; simp; omega) ?_; intro v1 W2 hO2 hG2))
 have hB2 : Hid (Below w.heap.size w W2) := (hB1.out.alloc hB1.out.size _).grown hG2.out (by have := hB1.out.size; simp; omega) (fun k hk => by simp [Value.ownBlock] at hk; omega)
 have hO2' : Hid (Own W2 w.heap.size 5 v1 ((padZ (qaz s) 0).map cv)) := by
  have e := hO2.out
  have e2 : (qaz s).map cv ++ [Value.int IntKind.u8 128] = (padZ (qaz s) 0).map cv := by simp [padZ, C8]
  rw [e2] at e; exact e
 clear hO1 hB1 hG2 hO2 hcv
 go_loopw [3] (fun v wr => ∃ k n g cap : Nat, k ≤ Z ∧ Hid (n = s.size + 1 + k) ∧ v = .slice (some ⟨g, 0, none⟩) n cap ∧ n ≤ s.size + 129 ∧ Hid (w.heap.size ≤ g ∧ g < wr.heap.size ∧ n ≤ cap ∧ cap ≤ maxLen) ∧ Hid (Own wr w.heap.size 5 v ((padZ (qaz s) k).map cv)) ∧ Hid (Below w.heap.size w wr)) (fun v _ => s.size + 1 + Z - slLen v)
 case atStart =>
  obtain ⟨g, cap, h1, h2, h3, h4, h5, _⟩ := hO2'.out.form (by rw [List.length_map, qbr]; omega)
  have e : ((padZ (qaz s) 0).map cv).length = s.size + 1 + 0 := by rw [List.length_map, qbr, qaQ]
  rw [e] at h1 h4
  exact ⟨0, _, g, cap, Nat.zero_le _, rfl, h1, by omega, ⟨h2, h3, h4, h5⟩, hO2', hB2⟩
 case round =>
  clear hO2' hB2
  obtain ⟨k, n, g, cap, hk, HN, rfl, hn, HG, hO, hB⟩ := hrel
  have bn : (n : Int) ≤ 140737488351873 := by omega
  have hlen : ((padZ (qaz s) k).map cv).length = n := by rw [List.length_map, qbr, qaQ, HN.out]
  by_cases hlt : k < Z
  ·
   have ht : ((n : Int) % 128 != 112) = true := by
    have := zcnt_not s.size k (by rw [← HZ.out]; exact hlt)
    rw [← HN.out] at this
    rw [bne_iff_ne]; omega
   have HL := qaf hlen
   clear hlen
   go_wp2_with (first | (at_builtin; refine qa4 _ (by rfl) (.tmp 17) (.tmp 18) 89 (by rfl) w.heap.size 5 i0 (.int .u8 0) 1 qcH HI.out HZ0.out HZ1.out HZ2.out rfl _ _ (by rfl) (hO.out.alloc _) ⟨wr.heap.size, 0, none⟩ 1 1 [.int .u8 0] (by rfl) rfl (cell_one_new _ _ _) (by intro u hu; simp at hu; subst hu; rfl) (by rw [HL.out]; unfold maxLen; omega) (by rw [HL.out]; omega) (by have := hB.out.size; simp; omega) ?_; intro v1 W2 hO2 hG2))
   have hB2 : Hid (Below w.heap.size w W2) := (hB.out.alloc hB.out.size _).grown hG2.out (by have := hB.out.size; simp; omega) (fun k hk => by simp [Value.ownBlock] at hk; have := HG.out.1; omega)
   have hO2' : Hid (Own W2 w.heap.size 5 v1 ((padZ (qaz s) (k + 1)).map cv)) := by
    have e := hO2.out
    have e2 : (padZ (qaz s) k).map cv ++ [Value.int IntKind.u8 0] = (padZ (qaz s) (k + 1)).map cv := by rw [← padZ_succ, List.map_append]; rfl
    rw [e2] at e; exact e
   obtain ⟨g', cap', h1, h2, h3, h4, h5, _⟩ := hO2'.out.form (by rw [List.length_map, qbr]; omega)
   have e : ((padZ (qaz s) (k + 1)).map cv).length = s.size + 1 + (k + 1) := by rw [List.length_map, qbr, qaQ]
   rw [e] at h1 h4
   have HV := qaf h1
   have HGG := qaf (⟨h2, h3, h4, h5⟩ : w.heap.size ≤ g' ∧ g' < W2.heap.size ∧ s.size + 1 + (k + 1) ≤ cap' ∧ cap' ≤ maxLen)
   clear h1 h2 h3 h4 h5 e hO hB hO2 hG2
   go_wp2
   go_roundw
   case rel => exact ⟨k + 1, _, g', cap', by omega, rfl, HV.out, by omega, HGG, hO2', hB2⟩
   case measure => have := HN.out; rw [HV.out]; simp only [slLen]; omega
  ·
   have hkZ : k = Z := by omega
   have ht : ((n : Int) % 128 != 112) = false := by
    have := zcnt_end s.size
    rw [← HZ.out, ← hkZ, ← HN.out] at this
    rw [bne_eq_false_iff_eq]; omega
   have hmk := make16
   have hO' : Hid (Own wr w.heap.size 5 (.slice (some ⟨g, 0, none⟩) n cap) ((padZ (qaz s) Z).map cv)) := by rw [← hkZ]; exact hO
   have HNZ : Hid (n = s.size + 1 + Z) := by rw [← hkZ]; exact HN
   clear hlt hkZ hO hlen hk HN
   go_wp2_with fail
   clear ht hmk
   obtain ⟨q, hq⟩ : ∃ q, q = wr.heap.size := ⟨_, rfl⟩
   rw [← hq]
   have HQ : Hid (w.heap.size ≤ q ∧ g < q) := by rw [hq]; exact ⟨hB.out.size, HG.out.2.1⟩
   go_loopw [4, 6] (fun nv i wr => ∃ (j p N : Nat) (ivH : Int), i = .int .i64 ivH ∧ nv = .int .i64 N ∧ N ≤ 140737488351744 ∧ Hid (ivH = (p : Int) - 1) ∧ Hid (p + j = 16) ∧ Hid (N = nAt s.size j) ∧ Hid (wr.heap[q]? = some (.cells ((qcA s.size j).map cv).toArray 5 (0, 0))) ∧
     Hid (Own wr w.heap.size 5 (.slice (some ⟨g, 0, none⟩) n cap) ((padZ (qaz s) Z).map cv)) ∧ Hid (Below w.heap.size w wr)) (fun _ i _ => (intOf i + 1).toNat)
   case atStart => exact ⟨0, 16, s.size, 15, rfl, rfl, hs, rfl, rfl, rfl, by rw [hq]; exact heap_alloc_new wr _, hO'.out.alloc _, hB.out.alloc hB.out.size _⟩
   case round =>
    clear hO' hB hq
    obtain ⟨j, p, N, ivH, rfl, rfl, hNb, HIV, HPJ, HNA, hr, hO, hB⟩ := hrel
    by_cases hp : 0 < p
    ·
     obtain ⟨p', rfl⟩ : ∃ p', p = p' + 1 := ⟨p - 1, by omega⟩
     obtain rfl : ivH = (p' : Int) := by rw [HIV.out]; omega
     have hpj := HPJ.out
     have bp : (p' : Int) < 16 := by omega
     have hcell := cvs_at hr.out p' (by rw [qbI]; omega)
     have hfz := frozen_of_row wr q p' _ _ hr.out
     generalize C8 ((qcA s.size j).getD p' 0) = old at hcell
     by_cases h15 : p' = 15
     ·
      have hq15 : ((p' : Int) == 15) = true := by rw [h15]; rfl
      have H15 := qaf h15
      clear hpj h15
      have HE : Hid (8 * ((N : Int) % 32) = C8 (qa0 s.size p')) := by
       have hj : j = 0 := by have := HPJ.out; have := H15.out; omega
       show _ = _
       rw [HNA.out, hj, H15.out, nAt, if_pos rfl, qa0, if_pos rfl]
       unfold C8; rw [UInt8.toNat_ofNat']; omega
      go_wp2
      go_roundw
      case rel =>
       have hj : j = 0 := by have := HPJ.out; have := H15.out; omega
       refine ⟨j + 1, p', N / 32, (p' : Int) - 1, rfl, by go_num, by omega, rfl, by show p' + (j + 1) = 16; have := HPJ.out; omega, ?_, ?_, ?_, hB.out.setCell (by exact HQ.out.1) _⟩
       · show N / 32 = nAt s.size (j + 1); rw [HNA.out, hj]; simp [nAt]
       · rw [HE.out]; exact cnt_step hr.out HPJ.out
       · exact hO.out.kept fun k hk => by simp [Value.ownBlock] at hk; subst hk; exact Below.heap_setCell _ _ _ _ (by have := HQ.out.2; show _ ≠ q; omega)
      case measure => simp [intOf]
     ·
      have hq15 : ((p' : Int) == 15) = false := by rw [beq_eq_false_iff_ne]; omega
      have H15 := qaf h15
      clear hpj h15
      have HE : Hid ((N : Int) % 256 = C8 (qa0 s.size p')) := by
       have hj : 1 ≤ j := by have := HPJ.out; have := H15.out; omega
       have e1 : j - 1 = 14 - p' := by have := HPJ.out; omega
       show _ = _
       rw [HNA.out, nAt, if_neg (by omega), qa0, if_neg H15.out, e1]
       unfold C8; rw [UInt8.toNat_ofNat']; omega
      go_wp2
      go_roundw
      case rel =>
       have hj : 1 ≤ j := by have := HPJ.out; have := H15.out; omega
       refine ⟨j + 1, p', N / 256, (p' : Int) - 1, rfl, by go_num, by omega, rfl, by show p' + (j + 1) = 16; have := HPJ.out; omega, ?_, ?_, ?_, hB.out.setCell (by exact HQ.out.1) _⟩
       ·
        show N / 256 = nAt s.size (j + 1)
        obtain ⟨j', rfl⟩ : ∃ j', j = j' + 1 := ⟨j - 1, by omega⟩
        rw [HNA.out]; simp only [nAt, Nat.add_sub_cancel]; rw [if_neg (by omega), if_neg (by omega), Nat.pow_succ, Nat.div_div_eq_div_mul _ (256 ^ j')]
       · rw [HE.out]; exact cnt_step hr.out HPJ.out
       · exact hO.out.kept fun k hk => by simp [Value.ownBlock] at hk; subst hk; exact Below.heap_setCell _ _ _ _ (by have := HQ.out.2; show _ ≠ q; omega)
      case measure => simp [intOf]
    ·
     have hp0 : p = 0 := by omega
     have hj : j = 16 := by have := HPJ.out; omega
     have hiv : ivH < 0 := by rw [HIV.out]; omega
     have hr' : Hid (wr.heap[q]? = some (.cells ((qcA s.size 16).map cv).toArray 5 (0, 0))) := by rw [← hj]; exact hr
     have HL : Hid (((padZ (qaz s) Z).map cv).length = n) := by show _ = _; rw [List.length_map, qbr, qaQ, HNZ.out]
     clear hr hp hp0 hj
     go_wp2_with (first | (at_builtin; refine qa4 _ (by rfl) (.tmp 44) (.tmp 45) 89 (by rfl) w.heap.size 5 i0 (.int .u8 0) 1 qcH HI.out HZ0.out HZ1.out HZ2.out rfl _ _ (by rfl) hO.out ⟨q, 0, none⟩ 16 16 ((qcA s.size 16).map cv) (by rfl) (by rw [List.length_map, qbI]) (by have e := World.news_of_block hr'.out; simpa using e) (by intro u hu; obtain ⟨x, _, rfl⟩ := List.mem_map.1 hu; rfl) (by rw [HL.out]; unfold maxLen; omega) (by rw [HL.out]; omega) hB.out.size ?_; intro v1 W2 hO2 hG2))
     have hB2 : Hid (Below w.heap.size w W2) := hB.out.grown hG2.out hB.out.size (fun k hk => by simp [Value.ownBlock] at hk; have := HG.out.1; omega)
     have hO2' : Own W2 w.heap.size 5 v1 ((qb9 (qaz s)).map cv) := by
      have e := hO2.out
      rw [← List.map_append] at e
      unfold qb9; rw [qaQ, ← HZ.out]; exact e
     have hpl : ((qb9 (qaz s)).map cv).length = (qb9 (qaz s)).length := List.length_map ..
     obtain ⟨g', cap', h1, h2, h3, h4, h5, h6⟩ := hO2'.form (by rw [hpl]; unfold qb9; rw [List.length_append, qbr]; omega)
     rw [hpl] at h1 h4 h6
     subst h1
     have H2 := qaf h2
     have H3 := qaf h3
     have H4 := qaf h4
     have H5 := qaf h5
     have H6 := qaf h6
     clear h2 h3 h4 h5 h6 hO2' hpl hO2 hG2
     generalize hLN : (qb9 (qaz s)).length = LN at *
     go_wp2_with fail
     go_ret
     refine ⟨g', cap', rfl, H2.out, H4.out, H5.out, H3.out, fun i hi => ?_, hB2.out⟩
     rw [H6.out i hi]
     have : i < (qb9 (qaz s)).length := by rw [hLN]; exact hi
     simp [this]
end
theorem choose_or (x y z : BitVec 64) : x &&& y ||| ~~~x &&& z = qdr x y z := by
 unfold qdr
 apply BitVec.eq_of_getLsbD_eq
 intro i hi
 simp only [BitVec.getLsbD_or, BitVec.getLsbD_and, BitVec.getLsbD_not, BitVec.getLsbD_xor, hi, decide_true, Bool.true_and]
 cases x.getLsbD i <;> cases y.getLsbD i <;> cases z.getLsbD i <;> rfl
theorem majority_or (x y z : BitVec 64) : x &&& y ||| x &&& z ||| y &&& z = qdk x y z := by
 unfold qdk
 apply BitVec.eq_of_getLsbD_eq
 intro i hi
 simp only [BitVec.getLsbD_or, BitVec.getLsbD_and, BitVec.getLsbD_xor]
 cases x.getLsbD i <;> cases y.getLsbD i <;> cases z.getLsbD i <;> rfl
theorem next_ref (l : List (BitVec 64)) (n : Nat) :
  qb6 (l.getD (n + 1) 0) + qb4 (l.getD (n + 14) 0) + l.getD n 0 + l.getD (n + 9) 0 = nextW l n := by
 unfold nextW; ac_rfl
theorem step_ref (kk ww : BitVec 64) (s : S8) :
  (⟨(s.h + qdr s.e s.f s.g + kk + ww + qcg s.e) + (qdk s.a s.b s.c + bigSigma0W s.a), s.a, s.b, s.c,
   s.d + (s.h + qdr s.e s.f s.g + kk + ww + qcg s.e), s.e, s.f, s.g⟩ : S8) = stepW kk ww s := by
 unfold stepW
 have e : s.h + qdr s.e s.f s.g + kk + ww + qcg s.e = s.h + qcg s.e + qdr s.e s.f s.g + kk + ww := by ac_rfl
 rw [e, BitVec.add_comm (qdk s.a s.b s.c)]
def chunk (p : List UInt8) (k : Nat) : List UInt8 := (p.drop (128 * k)).take 128
noncomputable def qds (p : List UInt8) (s : S8) : Nat → S8
 | 0 => s
 | k + 1 => mixS (qds p s k) (chunk p k)
theorem mixTo_succ (p : List UInt8) (s : S8) (k : Nat) : qds p s (k + 1) = (qds p s k).add (rnds (sch (chunk p k) 64) (qds p s k) 80) := by
 rw [← sch64_eq, ← rnd80_eq]; rfl
theorem padB_length (l : List UInt8) : ∃ m, (qb9 l).length = 128 * (m + 1) ∧ (qb9 l).length ≤ l.length + 145 := by
 have e : (qb9 l).length = l.length + 1 + zcnt l.length + 16 := by unfold qb9; rw [List.length_append, qbr, qbI]
 have h1 := zcnt_end l.length
 have h2 := zcnt_lt l.length
 rw [e]
 exact ⟨(l.length + 1 + zcnt l.length + 16) / 128 - 1, by omega, by omega⟩
theorem qcw (p : List UInt8) (k i : Nat) (h : i < 128) : (chunk p k).getD i 0 = p.getD (128 * k + i) 0 := by
 unfold chunk
 simp only [List.getD_eq_getElem?_getD, List.getElem?_take, h, if_pos, List.getElem?_drop]
theorem w16_chunk (p : List UInt8) (k t : Nat) (ht : t < 16) : w16 (chunk p k) t = be (fun i => p.getD (128 * k + 8 * t + i) 0) 8 := by
 unfold w16
 simp only [be]
 rw [qcw _ _ _ (by omega), qcw _ _ _ (by omega), qcw _ _ _ (by omega), qcw _ _ _ (by omega), qcw _ _ _ (by omega), qcw _ _ _ (by omega), qcw _ _ _ (by omega), qcw _ _ _ (by omega)]
 simp only [Nat.add_assoc]
theorem uvs_at {w : World} {g : Nat} {t : TypeId} {l : List (BitVec 64)} {fr : Nat × Nat} (h : w.heap[g]? = some (.cells (l.map uv).toArray t fr)) (i : Nat) (hi : i < l.length) : w.cell? ⟨g, i, none⟩ = some (.int .u64 (U (l.getD i 0))) := by
 rw [cell_of_row w g i _ t fr h]; simp [hi]
section
variable {P : Program} (w : World)
theorem step_append_OwnH {ops : Array Oper} {o : Oper} {a : Act} {K : Act → World → Prop} {Q : Exit → Act → World → Prop} {E : Prop} (hgd : o.guard = none) (s x : Operand) (t : TypeId)
  (ho : o.op = .call { callee := .builtin .append, args := #[s, x], argTypes := #[t, t] })
  (B : Nat) (e : TypeId) (i : TypeInfo) (z : Value) (bytes : Nat) (ht : P.underlying t = some (.slice e)) (hi : P.info? e = some i) (hz : i.zero = some z)
  (hsize : i.size = 1) (hby : i.bytes = bytes) (hzs : z.cells.size = 1)
  (v : Value) (xs : List Value) (hs : a.eval s = v) (hown : Own w B e v xs)
  (ad : Addr) (m c : Nat) (news : List Value) (hx : a.eval x = .slice (some ad) m c) (hl : news.length = m) (hnews : ∀ j u, news[j]? = some u → w.cell? (ad.add j) = some u) (h1 : ∀ u ∈ news, u.oneCell' = true)
  (h63 : xs.length + m ≤ maxLen) (hbytes : (xs.length + m) * bytes ≤ 140737488355328) (hbase : B ≤ w.heap.size)
  (h : ∀ v' w', Hid (Own w' B e v' (xs ++ news)) → Hid (w.grownBy w' v.ownBlock) → Hid (∀ g j, v.ownBlock = some g → j < xs.length → w'.cell? ⟨g, j, none⟩ = w.cell? ⟨g, j, none⟩) → K (a.put o.dst v') w') :
  if Region.wanted o (yielded ops a.tmps) = true then Oper.wp P o a w K Q else E := by
 have hw : Region.wanted o (yielded ops a.tmps) = true := by simp [Region.wanted, hgd]
 rw [if_pos hw]
 obtain ⟨v', w', hr, h2, h3, h4⟩ := qc9 (P := P) w B t o.type e i z bytes ht hi hz hsize hby hzs v xs hown ad m c news hl hnews h1 h63 hbytes hbase
 unfold Oper.wp execOp
 simp only [ho, resolve, invoke, builtin, Sem.run_bind, Sem.run_pure, Result.andThen_ok, List.map_toArray, List.map_cons, List.map_nil, hs, hx, hr]
 exact h v' w' h2 h3 h4
end
theorem qcZ (x : BitVec 64) (k : Int) (h0 : 0 < k) (h1 : k < 64) (w : World) :
  Calls Tryz.prog 105 #[.int .u64 (U x), .int .i64 k] w fun e w' => e = .returned (.int .u64 (U (x.rotateRight k.toNat))) ∧ ∃ q, w' = w.drewN q :=
 refRight_any x k k.toNat (by omega) (by omega) (by omega) w
theorem infoU64 : (Tryz.prog.info? 59).map (fun i => (i.zero, i.size, i.bytes)) = some (some (.int .u64 0), 1, 8) := by kernel_rfl
theorem underSl64 : Tryz.prog.underlying 196 = some (.slice 59) := by kernel_rfl
theorem take_splice1 (L : List UInt8) (f : Nat) (c : UInt8) (h : f < L.length) : (splice L f [c]).take (f + 1) = L.take f ++ [c] := by
 unfold splice
 rw [← List.append_assoc, List.take_append_of_le_length (by simp; omega)]
 exact List.take_of_length_le (by simp; omega)
theorem st_mixS (H : HS) : H.mix.st = mixS H.st H.blk := by cases H; rfl
structure Inv (l : List UInt8) (k : Nat) (H : HS) : Prop where
 len : H.blk.length = 128
 n : H.n = k
 st : H.st = qds l ivH (k / 128)
 blk : H.blk.take (k % 128) = (l.drop (128 * (k / 128))).take (k % 128)
theorem inv_step (l : List UInt8) (k : Nat) (H : HS) (hk : k < l.length) (h : Inv l k H) : Inv l (k + 1) (H.put (l[k])) := by
 have hf : H.filled = k % 128 := by show H.n % 128 = _; rw [h.n]
 have hfl := H.filled_lt
 have hD : (l.drop (128 * (k / 128))).take (k % 128 + 1) = (l.drop (128 * (k / 128))).take (k % 128) ++ [l[k]] := by
  have hlt : k % 128 < (l.drop (128 * (k / 128))).length := by rw [List.length_drop]; omega
  rw [List.take_succ_eq_append_getElem hlt, List.getElem_drop]
  congr 2
  congr 1; omega
 have hB : (splice H.blk H.filled [l[k]]).take (k % 128 + 1) = (l.drop (128 * (k / 128))).take (k % 128 + 1) := by
  rw [hD, ← h.blk, ← hf, take_splice1 _ _ _ (by rw [h.len]; exact hfl)]
 have hL : (splice H.blk H.filled [l[k]]).length = 128 := (length_splice _ _ _ (by rw [h.len]; simp; omega)).trans h.len
 unfold HS.put HS.chunk HS.done
 by_cases h0 : (k + 1) % 128 = 0
 ·
  have hc : ({ H with blk := splice H.blk H.filled [l[k]], n := H.n + [l[k]].length } : HS).filled = 0 := by show (H.n + 1) % 128 = 0; rw [h.n]; exact h0
  rw [if_pos hc]
  have hq : (k + 1) / 128 = k / 128 + 1 := by omega
  have h127 : k % 128 + 1 = 128 := by omega
  have hblk : splice H.blk H.filled [l[k]] = chunk l (k / 128) := by
   have e := hB
   rw [h127] at e
   rw [List.take_of_length_le (by rw [hL]; exact Nat.le_refl _)] at e
   exact e
  refine ⟨?_, ?_, ?_, ?_⟩
  · rw [blk_mix]; exact hL
  · show H.n + 1 = k + 1; rw [h.n]
  ·
   rw [st_mixS, hq]
   show mixS H.st (splice H.blk H.filled [l[k]]) = mixS (qds l ivH (k / 128)) (chunk l (k / 128))
   rw [h.st, hblk]
  · rw [h0]; simp
 ·
  have hc : ¬ ({ H with blk := splice H.blk H.filled [l[k]], n := H.n + [l[k]].length } : HS).filled = 0 := by show ¬ (H.n + 1) % 128 = 0; rw [h.n]; exact h0
  rw [if_neg hc]
  have hq : (k + 1) / 128 = k / 128 := by omega
  have hr : (k + 1) % 128 = k % 128 + 1 := by omega
  refine ⟨hL, ?_, ?_, ?_⟩
  · show H.n + 1 = k + 1; rw [h.n]
  · rw [hq]; exact h.st
  · rw [hq, hr]; exact hB
theorem inv_take (l : List UInt8) : ∀ k, k ≤ l.length → Inv l k (H0.puts (l.take k))
 | 0, _ => ⟨H0_len, rfl, rfl, by simp⟩
 | k + 1, hk => by
  have h := inv_step l k _ (by omega) (inv_take l k (by omega))
  rw [List.take_succ_eq_append_getElem (by omega), HS.puts_append]
  exact h
theorem inv_all (l : List UInt8) : Inv l l.length (H0.puts l) := by
 have h := inv_take l l.length (Nat.le_refl _)
 rw [List.take_of_length_le (Nat.le_refl _)] at h
 exact h
theorem mixTo_congr (p l : List UInt8) (s : S8) (q : Nat) (h : ∀ i, i < q → chunk p i = chunk l i) : qds p s q = qds l s q := by
 induction q with
 | zero => rfl
 | succ q ih =>
  show mixS (qds p s q) (chunk p q) = mixS (qds l s q) (chunk l q)
  rw [ih (fun i hi => h i (by omega)), h q (by omega)]
theorem chunk_append (l r : List UInt8) (i : Nat) (h : 128 * i + 128 ≤ l.length) : chunk (l ++ r) i = chunk l i := by
 unfold chunk
 rw [List.drop_append_of_le_length (by omega), List.take_append_of_le_length (by rw [List.length_drop]; omega)]
theorem byteOf_eq (x : BitVec 64) (k m : Nat) (h : x.toNat / 2 ^ (56 - 8 * k) % 256 = m % 256) : qbT x k = UInt8.ofNat m := by
 unfold qbT
 apply UInt8.toNat.inj
 rw [UInt8.toNat_ofNat', UInt8.toNat_ofNat', BitVec.toNat_ushiftRight, Nat.shiftRight_eq_div_pow]
 exact h
theorem cnt_be8 (H : HS) (n : Nat) (hn : H.n = n) (hb : n < 2305843009213693952) : qcA n 16 = be8 H.hi3 ++ be8 H.lo3 := by
 have hlo : H.lo.toNat = n := by unfold HS.lo; rw [hn, BitVec.toNat_ofNat]; exact Nat.mod_eq_of_lt (by omega)
 have hhi : H.hi = 0#64 := by
  unfold HS.hi; rw [hn]
  have : n / 18446744073709551616 = 0 := by omega
  rw [this]
 have h3 : H.hi3 = 0#64 := by
  unfold HS.hi3; rw [hhi]
  apply BitVec.eq_of_toNat_eq
  rw [BitVec.toNat_or, BitVec.toNat_ushiftRight, hlo, Nat.shiftRight_eq_div_pow]
  have : n / 2 ^ 61 = 0 := by omega
  rw [this]; simp
 have hl3 : H.lo3.toNat = 8 * n := by
  unfold HS.lo3; rw [BitVec.toNat_shiftLeft, hlo, Nat.shiftLeft_eq]; omega
 have e0 : ∀ k, qbT 0#64 k = 0 := fun k => by
  rw [byteOf_eq 0#64 k 0 (by simp)]; rfl
 have c0 : ∀ i, i < 8 → qa0 n i = 0 := fun i hi => by
  unfold qa0; rw [if_neg (by omega)]
  have : n / 32 / 256 ^ (14 - i) = 0 := by
   rw [Nat.div_eq_zero_iff]; right
   have : 256 ^ 7 ≤ 256 ^ (14 - i) := Nat.pow_le_pow_right (by omega) (by omega)
   omega
  rw [this]; rfl
 have c1 : ∀ k, k < 7 → qa0 n (8 + k) = qbT H.lo3 k := fun k hk => by
  unfold qa0; rw [if_neg (by omega)]
  refine (byteOf_eq _ _ _ ?_).symm
  rw [hl3]
  have e : 56 - 8 * k = 8 + 8 * (14 - (8 + k)) := by omega
  rw [e, Nat.pow_add, Nat.pow_mul, ← Nat.div_div_eq_div_mul]
  have e2 : 8 * n / 2 ^ 8 = n / 32 := by omega
  rw [e2, Nat.mod_mod]
 have c2 : qa0 n 15 = qbT H.lo3 7 := by
  unfold qa0; rw [if_pos rfl]
  refine (byteOf_eq _ _ _ ?_).symm
  rw [hl3]; omega
 have hr : qcA n 16 = [qa0 n 0, qa0 n 1, qa0 n 2, qa0 n 3, qa0 n 4, qa0 n 5, qa0 n 6, qa0 n 7, qa0 n 8, qa0 n 9, qa0 n 10, qa0 n 11, qa0 n 12, qa0 n 13, qa0 n 14, qa0 n 15] := rfl
 rw [hr, h3]
 unfold be8
 rw [e0, e0, e0, e0, e0, e0, e0, e0, c0 0 (by omega), c0 1 (by omega), c0 2 (by omega), c0 3 (by omega), c0 4 (by omega), c0 5 (by omega), c0 6 (by omega), c0 7 (by omega),
  ← c1 0 (by omega), ← c1 1 (by omega), ← c1 2 (by omega), ← c1 3 (by omega), ← c1 4 (by omega), ← c1 5 (by omega), ← c1 6 (by omega), ← c2]
 rfl
theorem lay2 (M : List UInt8) (x y : BitVec 64) (h : M.length = 128) : layB (layB M 112 x 8) 120 y 8 = M.take 112 ++ (be8 x ++ be8 y) := by
 rw [layB_all (layB M 112 x 8) 120 y (by rw [qeg]; omega), layB_all M 112 x (by omega)]
 have h1 : (M.take 112).length = 112 := by simp; omega
 have e1 : (M.take 112 ++ (be8 x ++ M.drop (112 + 8))).take 120 = M.take 112 ++ be8 x := by
  rw [← List.append_assoc, List.take_append_of_le_length (by simp [h1, qdR])]
  exact List.take_of_length_le (by simp [h1, qdR])
 have e2 : (M.take 112 ++ (be8 x ++ M.drop (112 + 8))).drop (120 + 8) = [] := List.drop_eq_nil_of_le (by simp [qdR]; omega)
 rw [e1, e2]; simp
theorem mix_with (X : HS) (B : List UInt8) : (HS.mix { X with blk := B }).st = mixS X.st B := by cases X; rfl
theorem ended_st (H : HS) : H.ended.st = mixS H.roomed.st (layB (layB H.roomed.blk 112 H.hi3 8) 120 H.lo3 8) := mix_with _ _
theorem mixTo_mixS (p : List UInt8) (s : S8) (k : Nat) : qds p s (k + 1) = mixS (qds p s k) (chunk p k) := rfl
theorem marked_st (H : HS) : H.marked.st = H.st := by cases H; rfl
theorem same_hash (l : List UInt8) (NB : Nat) (hN : (qb9 l).length = 128 * NB) (hb : l.length < 2305843009213693952) : (qds (qb9 l) ivH NB).words.flatMap be8 = qa5 l := by
 have I := inv_all l
 obtain ⟨H, hH⟩ : ∃ H, H = H0.puts l := ⟨_, rfl⟩
 rw [← hH] at I
 unfold qa5 HS.sum
 rw [← hH]
 clear hH
 congr 2
 obtain ⟨q, hq⟩ : ∃ q, q = l.length / 128 := ⟨_, rfl⟩
 obtain ⟨f, hf⟩ : ∃ f, f = l.length % 128 := ⟨_, rfl⟩
 have hfil : H.filled = f := by show H.n % 128 = f; rw [I.n, hf]
 have hD : H.blk.take f = l.drop (128 * q) := by
  rw [hf, hq, I.blk]; exact List.take_of_length_le (by rw [List.length_drop]; omega)
 have hDl : (l.drop (128 * q)).length = f := by rw [List.length_drop]; omega
 have hst : H.st = qds (qb9 l) ivH q := by
  rw [I.st, ← hq]
  refine (mixTo_congr _ _ _ _ fun i hi => ?_).symm
  unfold qb9 padZ
  rw [List.append_assoc]
  exact chunk_append _ _ _ (by omega)
 have hcnt := cnt_be8 H l.length I.n hb
 have hPd : (qb9 l).drop (128 * q) = l.drop (128 * q) ++ (128 :: List.replicate (zcnt l.length) 0 ++ qcA l.length 16) := by
  unfold qb9 padZ
  rw [List.append_assoc, List.drop_append_of_le_length (by omega)]
 have hPl : (qb9 l).length = l.length + 1 + zcnt l.length + 16 := by unfold qb9; rw [List.length_append, qbr, qbI]
 have hM : H.marked.blk = l.drop (128 * q) ++ (128 :: List.replicate (127 - f) 0) := by
  unfold HS.marked; rw [hfil, hD]
 rw [ended_st]
 by_cases h112 : f < 112
 ·
  have hz : zcnt l.length = 111 - f := by unfold zcnt; omega
  have hNB : NB = q + 1 := by omega
  have hroom : H.roomed = H.marked := by unfold HS.roomed; rw [if_neg (by rw [hfil]; omega)]
  rw [hroom, hNB, mixTo_mixS, marked_st, hst, lay2 _ _ _ (H.marked_length I.len), hM]
  refine congrArg (mixS _) ?_
  unfold chunk
  rw [hPd, hz, ← hcnt, List.take_of_length_le (by simp [qbI]; omega), List.take_append, List.take_of_length_le (by omega), hDl]
  have e : (128 :: List.replicate (127 - f) (0 : UInt8)).take (112 - f) = 128 :: List.replicate (111 - f) 0 := by
   rw [show 112 - f = (111 - f) + 1 by omega, List.take_succ_cons, List.take_replicate]
   congr 2; omega
  rw [e]; simp
 ·
  have hz : zcnt l.length = 239 - f := by unfold zcnt; omega
  have hNB : NB = q + 1 + 1 := by omega
  have hroom : H.roomed = { H.marked.mix with blk := List.replicate 128 0 } := by unfold HS.roomed; rw [if_pos (by rw [hfil]; omega)]
  have hc1 : chunk (qb9 l) q = H.marked.blk := by
   unfold chunk
   rw [hPd, hz, hM, List.take_append, List.take_of_length_le (by omega), hDl]
   congr 1
   rw [List.take_append_of_le_length (by simp; omega), show 128 - f = (127 - f) + 1 by omega, List.take_succ_cons, List.take_replicate]
   congr 2; omega
  have hc2 : chunk (qb9 l) (q + 1) = List.replicate 112 0 ++ (be8 H.hi3 ++ be8 H.lo3) := by
   unfold chunk
   rw [show 128 * (q + 1) = 128 * q + 128 by omega, ← List.drop_drop, hPd, hz, ← hcnt]
   rw [List.drop_append, List.drop_eq_nil_of_le (by omega), hDl, List.nil_append, List.drop_append_of_le_length (by simp; omega)]
   rw [show 128 - f = (127 - f) + 1 by omega]
   rw [List.drop_succ_cons, List.drop_replicate, show 239 - f - (127 - f) = 112 by omega]
   exact List.take_of_length_le (by simp [qbI])
  have hrs : H.roomed.st = mixS H.st H.marked.blk := by rw [hroom, ← marked_st H]; exact st_mixS _
  have hrb : H.roomed.blk = List.replicate 128 0 := by rw [hroom]
  rw [hrs, hrb, hNB, mixTo_mixS, mixTo_mixS, hc1, hc2, ← hst, lay2 _ _ _ (by simp)]
  refine congrArg (mixS _) ?_
  simp
theorem sch_cell {w : World} {g : Nat} {l : List (BitVec 64)} (h : ∀ i, i < (l.map uv).length → w.cell? ⟨g, i, none⟩ = (l.map uv)[i]?) (i : Nat) (hi : i < l.length) : w.cell? ⟨g, i, none⟩ = some (.int .u64 (U (l.getD i 0))) := by
 rw [h i (by simpa using hi)]; simp [hi]
structure Rd (w : World) (gv gc gw n : Nat) (T : S8) (kk ww : BitVec 64) : Prop where
 a : w.cell? ⟨gv, 0, none⟩ = some (.int .u64 (U T.a))
 b : w.cell? ⟨gv, 1, none⟩ = some (.int .u64 (U T.b))
 c : w.cell? ⟨gv, 2, none⟩ = some (.int .u64 (U T.c))
 d : w.cell? ⟨gv, 3, none⟩ = some (.int .u64 (U T.d))
 e : w.cell? ⟨gv, 4, none⟩ = some (.int .u64 (U T.e))
 f : w.cell? ⟨gv, 5, none⟩ = some (.int .u64 (U T.f))
 g : w.cell? ⟨gv, 6, none⟩ = some (.int .u64 (U T.g))
 h : w.cell? ⟨gv, 7, none⟩ = some (.int .u64 (U T.h))
 k : w.cell? ⟨gc, n, none⟩ = some (.int .u64 (U kk))
 w : w.cell? ⟨gw, n, none⟩ = some (.int .u64 (U ww))
theorem Rd.drewN {w : World} {gv gc gw n : Nat} {T : S8} {kk ww : BitVec 64} (h : Rd w gv gc gw n T kk ww) (q : Nat) : Rd (w.drewN q) gv gc gw n T kk ww := ⟨h.a, h.b, h.c, h.d, h.e, h.f, h.g, h.h, h.k, h.w⟩
theorem flat_get (ws : List (BitVec 64)) : ∀ j, j < 8 * ws.length → (ws.flatMap be8).getD j 0 = qbT (ws.getD (j / 8) 0) (j % 8) := by
 induction ws with
 | nil => intro j hj; simp at hj
 | cons x l ih =>
  intro j hj
  simp only [List.flatMap_cons, List.getD_eq_getElem?_getD]
  by_cases h : j < 8
  ·
   rw [List.getElem?_append_left (by exact h)]
   have h0 : j / 8 = 0 := by omega
   have h1 : j % 8 = j := by omega
   rw [h0, h1]
   have hc : j = 0 ∨ j = 1 ∨ j = 2 ∨ j = 3 ∨ j = 4 ∨ j = 5 ∨ j = 6 ∨ j = 7 := by omega
   rcases hc with rfl | rfl | rfl | rfl | rfl | rfl | rfl | rfl <;> rfl
  ·
   rw [List.getElem?_append_right (by show 8 ≤ j; omega)]
   have e := ih (j - 8) (by simp at hj; omega)
   simp only [List.getD_eq_getElem?_getD] at e
   have e1 : j / 8 = (j - 8) / 8 + 1 := by omega
   have e2 : j % 8 = (j - 8) % 8 := by omega
   rw [e1, e2, List.getElem?_cons_succ]
   exact e
theorem own_geH {w : World} {B : Nat} {e : TypeId} {v : Value} {xs : List Value} (h : Own w B e v xs) {q : Nat} (hq : v.ownBlock = some q) : B ≤ q := by
 rcases h with ⟨rfl, _⟩ | ⟨g, cap, cur, fr, rfl, h1, _⟩
 · cases hq
 · simp [Value.ownBlock] at hq; omega
def qdL : Code → List Code
 | .loop c => c :: qdL c
 | .seq a b => qdL a ++ qdL b
 | .block _ c => qdL c
 | .scope c => qdL c
 | .cond _ a b => qdL a ++ qdL b
 | _ => []
noncomputable def refBody (n : Nat) : Code := (qdL (Tryz.f61.body.getD .skip)).getD n .skip
section
attribute [local go_sem] U_and U_or qej U_not U_add qbC U_shr7 U_shr6
attribute [local go_sem ↓] Go.wp_at_zero Go.wp_at_succ
set_option maxRecDepth 1000000 in
set_option maxHeartbeats 8000000 in
theorem refLoop3 (Wk W0 : World) (i0 : TypeInfo) (C : List UInt8) (v7 : Value) (c0 c1 c2 c3 c4 c5 c6 c8 c9 c11 c12 c13 c14 c15 c16 c17 c18 c19 c20 c21 c22 c23 c24 c25 c26 c27 c28 c29 c30 c31 c32 c33 c34 c35 c36 c37 c38 c39 c40 c41 c42 c43 c44 c45 c46 c47 c48 c49 c50 c51 c52 c53 c54 c55 c56 c57 c58 c59 c60 c61 c62 c63 c64 c65 c66 c67 c68 c69 c70 c71 c72 c73 c74 c75 c76 c77 c78 c79 c80 c81 c82 c83 c84 c85 c86 c87 c88 c89 c90 c91 c92 c93 c94 c95 c96 c97 c98 c99 c100 c101 c102 c103 c104 c105 c106 c107 c108 c109 c110 c111 c112 c113 c114 c115 c116 c117 c118 c119 c120 c121 c122 c123 c124 c125 c126 c127 c128 c129 c130 c131 c132 c133 c134 c135 c136 c137 c138 c139 c140 c141 c142 c143 c144 c145 c146 c147 c148 c149 c150 c151 c152 c153 c154 c155 c156 c157 c158 c159 c160 c161 c162 c163 c164 c165 c166 c167 c168 c169 c170 c171 c172 c173 c174 c175 c176 c177 c178 c179 c180 c181 c182 c183 c184 c185 c186 c187 c188 c189 c190 c191 c192 c193 c194 c195 c196 c197 c198 c199 c200 c201 c202 c203 c204 c205 c206 c207 c208 c209 c210 c211 c212 c213 c214 c215 c216 c217 c218 c219 c220 c221 c222 c223 c224 c225 c226 c227 c228 c229 c230 c231 c232 c233 c234 c235 c236 c237 c238 c239 c240 c241 c242 c243 c244 c245 c246 c247 c248 c249 c250 c251 c252 c253 c254 c255 c256 c257 c258 c259 c260 c261 c262 c263 c264 c265 c266 c267 c268 : Value) (Q : Exit → Act → World → Prop)
  (HI : Hid (Tryz.prog.info? 59 = some i0)) (HZ0 : Hid (i0.zero = some (.int .u64 0))) (HZ1 : Hid (i0.size = 1)) (HZ2 : Hid (i0.bytes = 8))
  (HO' : Hid (Own W0 Wk.heap.size 59 v7 ((sch C 0).map uv))) (HBr : Hid (Below Wk.heap.size Wk W0))
  (HEX : Hid (∀ (n m : Nat) (u7 : Value) (u11 u12 u52 u53 u54 u55 u56 u57 u58 u59 u60 u61 u62 u63 u64 u65 u66 u67 u68 u69 u70 u71 u72 u73 u74 u75 u76 u77 u78 u79 u80 u81 u82 u83 u84 u85 u86 u87 u88 u89 u90 u91 u92 u93 u94 u95 u96 u97 u98 u99 u100 u101 u102 u103 u104 u105 u106 u107 u108 u109 u110 u111 u112 u113 : Value) (w' : World), n = 64 → m = 80 → Hid (Own w' Wk.heap.size 59 u7 ((sch C n).map uv)) → Hid (Below Wk.heap.size Wk w') →
   Q (.exit 4) ⟨List.toArray (c0 :: c1 :: c2 :: c3 :: c4 :: c5 :: c6 :: u7 :: c8 :: c9 :: (.int .i64 m) :: u11 :: u12 :: c13 :: c14 :: c15 :: c16 :: c17 :: c18 :: c19 :: c20 :: c21 :: c22 :: c23 :: c24 :: c25 :: c26 :: c27 :: c28 :: c29 :: c30 :: c31 :: c32 :: c33 :: c34 :: c35 :: c36 :: c37 :: c38 :: c39 :: c40 :: c41 :: c42 :: c43 :: c44 :: c45 :: c46 :: c47 :: c48 :: c49 :: c50 :: c51 :: u52 :: u53 :: u54 :: u55 :: u56 :: u57 :: u58 :: u59 :: u60 :: u61 :: u62 :: u63 :: u64 :: u65 :: u66 :: u67 :: u68 :: u69 :: u70 :: u71 :: u72 :: u73 :: u74 :: u75 :: u76 :: u77 :: u78 :: u79 :: u80 :: u81 :: u82 :: u83 :: u84 :: u85 :: u86 :: u87 :: u88 :: u89 :: u90 :: u91 :: u92 :: u93 :: u94 :: u95 :: u96 :: u97 :: u98 :: u99 :: u100 :: u101 :: u102 :: u103 :: u104 :: u105 :: u106 :: u107 :: u108 :: u109 :: u110 :: u111 :: u112 :: u113 :: c114 :: c115 :: c116 :: c117 :: c118 :: c119 :: c120 :: c121 :: c122 :: c123 :: c124 :: c125 :: c126 :: c127 :: c128 :: c129 :: c130 :: c131 :: c132 :: c133 :: c134 :: c135 :: c136 :: c137 :: c138 :: c139 :: c140 :: c141 :: c142 :: c143 :: c144 :: c145 :: c146 :: c147 :: c148 :: c149 :: c150 :: c151 :: c152 :: c153 :: c154 :: c155 :: c156 :: c157 :: c158 :: c159 :: c160 :: c161 :: c162 :: c163 :: c164 :: c165 :: c166 :: c167 :: c168 :: c169 :: c170 :: c171 :: c172 :: c173 :: c174 :: c175 :: c176 :: c177 :: c178 :: c179 :: c180 :: c181 :: c182 :: c183 :: c184 :: c185 :: c186 :: c187 :: c188 :: c189 :: c190 :: c191 :: c192 :: c193 :: c194 :: c195 :: c196 :: c197 :: c198 :: c199 :: c200 :: c201 :: c202 :: c203 :: c204 :: c205 :: c206 :: c207 :: c208 :: c209 :: c210 :: c211 :: c212 :: c213 :: c214 :: c215 :: c216 :: c217 :: c218 :: c219 :: c220 :: c221 :: c222 :: c223 :: c224 :: c225 :: c226 :: c227 :: c228 :: c229 :: c230 :: c231 :: c232 :: c233 :: c234 :: c235 :: c236 :: c237 :: c238 :: c239 :: c240 :: c241 :: c242 :: c243 :: c244 :: c245 :: c246 :: c247 :: c248 :: c249 :: c250 :: c251 :: c252 :: c253 :: c254 :: c255 :: c256 :: c257 :: c258 :: c259 :: c260 :: c261 :: c262 :: c263 :: c264 :: c265 :: c266 :: c267 :: c268 :: []), []⟩ w')) :
  Code.wp Tryz.prog (Code.loop (refBody 2)) Q ⟨List.toArray (c0 :: c1 :: c2 :: c3 :: c4 :: c5 :: c6 :: v7 :: c8 :: c9 :: (.int .i64 16) :: c11 :: c12 :: c13 :: c14 :: c15 :: c16 :: c17 :: c18 :: c19 :: c20 :: c21 :: c22 :: c23 :: c24 :: c25 :: c26 :: c27 :: c28 :: c29 :: c30 :: c31 :: c32 :: c33 :: c34 :: c35 :: c36 :: c37 :: c38 :: c39 :: c40 :: c41 :: c42 :: c43 :: c44 :: c45 :: c46 :: c47 :: c48 :: c49 :: c50 :: c51 :: c52 :: c53 :: c54 :: c55 :: c56 :: c57 :: c58 :: c59 :: c60 :: c61 :: c62 :: c63 :: c64 :: c65 :: c66 :: c67 :: c68 :: c69 :: c70 :: c71 :: c72 :: c73 :: c74 :: c75 :: c76 :: c77 :: c78 :: c79 :: c80 :: c81 :: c82 :: c83 :: c84 :: c85 :: c86 :: c87 :: c88 :: c89 :: c90 :: c91 :: c92 :: c93 :: c94 :: c95 :: c96 :: c97 :: c98 :: c99 :: c100 :: c101 :: c102 :: c103 :: c104 :: c105 :: c106 :: c107 :: c108 :: c109 :: c110 :: c111 :: c112 :: c113 :: c114 :: c115 :: c116 :: c117 :: c118 :: c119 :: c120 :: c121 :: c122 :: c123 :: c124 :: c125 :: c126 :: c127 :: c128 :: c129 :: c130 :: c131 :: c132 :: c133 :: c134 :: c135 :: c136 :: c137 :: c138 :: c139 :: c140 :: c141 :: c142 :: c143 :: c144 :: c145 :: c146 :: c147 :: c148 :: c149 :: c150 :: c151 :: c152 :: c153 :: c154 :: c155 :: c156 :: c157 :: c158 :: c159 :: c160 :: c161 :: c162 :: c163 :: c164 :: c165 :: c166 :: c167 :: c168 :: c169 :: c170 :: c171 :: c172 :: c173 :: c174 :: c175 :: c176 :: c177 :: c178 :: c179 :: c180 :: c181 :: c182 :: c183 :: c184 :: c185 :: c186 :: c187 :: c188 :: c189 :: c190 :: c191 :: c192 :: c193 :: c194 :: c195 :: c196 :: c197 :: c198 :: c199 :: c200 :: c201 :: c202 :: c203 :: c204 :: c205 :: c206 :: c207 :: c208 :: c209 :: c210 :: c211 :: c212 :: c213 :: c214 :: c215 :: c216 :: c217 :: c218 :: c219 :: c220 :: c221 :: c222 :: c223 :: c224 :: c225 :: c226 :: c227 :: c228 :: c229 :: c230 :: c231 :: c232 :: c233 :: c234 :: c235 :: c236 :: c237 :: c238 :: c239 :: c240 :: c241 :: c242 :: c243 :: c244 :: c245 :: c246 :: c247 :: c248 :: c249 :: c250 :: c251 :: c252 :: c253 :: c254 :: c255 :: c256 :: c257 :: c258 :: c259 :: c260 :: c261 :: c262 :: c263 :: c264 :: c265 :: c266 :: c267 :: c268 :: []), []⟩ W0 := by
 conv => arg 2; arg 1; whnf
 go_loopw [7, 10] (fun v i w3 => ∃ n m : Nat, n ≤ 64 ∧ Hid (m = 16 + n) ∧ i = .int .i64 m ∧ Hid (Own w3 Wk.heap.size 59 v ((sch C n).map uv)) ∧ Hid (Below Wk.heap.size Wk w3)) (fun _ i _ => 80 - (intOf i).toNat)
 case atStart => exact ⟨0, 16, Nat.zero_le _, rfl, rfl, HO', HBr⟩
 case round =>
  clear HO' HBr
  obtain ⟨n, m, hn, Hm, rfl, HO, HBr⟩ := hrel
  by_cases hn64 : n < 64
  ·
   have hl := qb5 C n
   obtain ⟨gw, capw, hv, hgw, hgwl, hcw, hcwm, hcells⟩ := HO.out.form (by rw [List.length_map, hl]; omega)
   have hlm : ((sch C n).map uv).length = m := by rw [List.length_map, hl, Hm.out]
   rw [hlm] at hv hcw
   subst hv
   have HGW : Hid (Wk.heap.size ≤ gw) := hgw
   have hm' := Hm.out
   obtain ⟨m2, hm2⟩ : ∃ m2, m2 = n + 14 := ⟨_, rfl⟩
   obtain ⟨m7, hm7⟩ : ∃ m7, m7 = n + 9 := ⟨_, rfl⟩
   obtain ⟨m15, hm15⟩ : ∃ m15, m15 = n + 1 := ⟨_, rfl⟩
   have c2 := sch_cell hcells m2 (by omega)
   have c7 := sch_cell hcells m7 (by omega)
   have c15 := sch_cell hcells m15 (by omega)
   have c16 := sch_cell hcells n (by omega)
   have e2 : IntKind.i64.wrap ((m : Int) - 2) = (m2 : Int) := by rw [IntKind.wrap_i64]; omega
   have e7 : IntKind.i64.wrap ((m : Int) - 7) = (m7 : Int) := by rw [IntKind.wrap_i64]; omega
   have e15 : IntKind.i64.wrap ((m : Int) - 15) = (m15 : Int) := by rw [IntKind.wrap_i64]; omega
   have e16 : IntKind.i64.wrap ((m : Int) - 16) = (n : Int) := by rw [IntKind.wrap_i64]; omega
   have b2 : (m2 : Int) < (m : Int) := by omega
   have b7 : (m7 : Int) < (m : Int) := by omega
   have b15 : (m15 : Int) < (m : Int) := by omega
   have b16 : (n : Int) < (m : Int) := by omega
   have bm : (m : Int) < 80 := by omega
   have HJ7 : Hid (m7 < m ∧ n < m) := ⟨by omega, by omega⟩
   generalize hx2 : (sch C n).getD m2 0 = x2 at c2
   generalize hx7 : (sch C n).getD m7 0 = x7 at c7
   generalize hx15 : (sch C n).getD m15 0 = x15 at c15
   generalize hx16 : (sch C n).getD n 0 = x16 at c16
   have HX : Hid (qb6 x15 + qb4 x2 + x16 + x7 = nextW (sch C n) n) := by
    show _ = _
    rw [← next_ref, ← hx2, ← hx7, ← hx15, ← hx16, hm2, hm7, hm15]
   have HLM := qaf hlm
   have HGL : Hid (gw < wr.heap.size) := hgwl
   clear hx2 hx7 hx15 hx16 hl hm2 hm7 hm15 hm' hcells hlm hgw hcw hcwm hgwl
   go_wp2_with fail
   go_quiet ((go_at_call 105; exact Calls.quiet_of (qcZ _ _ (by decide) (by decide) _)))
   obtain ⟨V, hV⟩ : ∃ V, V = wr.drewN nq := ⟨_, rfl⟩
   rw [← hV]
   have d2 : V.cell? ⟨gw, m2, none⟩ = some (.int .u64 (U x2)) := by rw [hV]; exact c2
   have d7 : V.cell? ⟨gw, m7, none⟩ = some (.int .u64 (U x7)) := by rw [hV]; exact c7
   have d16 : V.cell? ⟨gw, n, none⟩ = some (.int .u64 (U x16)) := by rw [hV]; exact c16
   have HO1 : Hid (Own V Wk.heap.size 59 (.slice (some ⟨gw, 0, none⟩) m capw) ((sch C n).map uv)) := by rw [hV]; exact HO
   have HBr1 : Hid (Below Wk.heap.size Wk V) := by rw [hV]; exact HBr.out.drewN nq
   have HGL1 : Hid (gw < V.heap.size) := by rw [hV]; exact HGL
   clear hV c2 c7 c15 c16 HO HBr HGL e15 b15
   go_wp2_with fail
   go_quiet ((go_at_call 105; exact Calls.quiet_of (qcZ _ _ (by decide) (by decide) _)))
   obtain ⟨V2, hV2⟩ : ∃ V2, V2 = V.drewN nq := ⟨_, rfl⟩
   rw [← hV2]
   have f7 : V2.cell? ⟨gw, m7, none⟩ = some (.int .u64 (U x7)) := by rw [hV2]; exact d7
   have f16 : V2.cell? ⟨gw, n, none⟩ = some (.int .u64 (U x16)) := by rw [hV2]; exact d16
   have HO2 : Hid (Own V2 Wk.heap.size 59 (.slice (some ⟨gw, 0, none⟩) m capw) ((sch C n).map uv)) := by rw [hV2]; exact HO1
   have HBr2 : Hid (Below Wk.heap.size Wk V2) := by rw [hV2]; exact HBr1.out.drewN nq
   have HGL2 : Hid (gw < V2.heap.size) := by rw [hV2]; exact HGL1
   clear hV2 d2 d7 d16 HO1 HBr1 HGL1 e2 b2
   go_wp2_with fail
   go_region_held3 (fun w' => w'.cell? ⟨gw, n, none⟩ = some (.int .u64 (U x16)) ∧ w'.cell? ⟨gw, m7, none⟩ = some (.int .u64 (U x7)))
    (first | exact ⟨(HK3.out gw n rfl (by rw [HLM.out]; exact HJ7.out.2)).trans ((World.cell?_alloc_lt _ _ _ (by exact HGL2.out)).trans f16), (HK3.out gw m7 rfl (by rw [HLM.out]; exact HJ7.out.1)).trans ((World.cell?_alloc_lt _ _ _ (by exact HGL2.out)).trans f7)⟩ | exact ⟨(World.cell?_alloc_lt _ _ _ (by exact HGL2.out)).trans f16, (World.cell?_alloc_lt _ _ _ (by exact HGL2.out)).trans f7⟩ | go_keep)
    (first | (refine step_append_OwnH _ (by rfl) (.tmp 96) (.tmp 112) 196 (by rfl) Wk.heap.size 59 i0 (.int .u64 0) 8 underSl64 HI.out HZ0.out HZ1.out HZ2.out rfl (.slice (some ⟨gw, 0, none⟩) m capw) ((sch C n).map uv) (by rfl) (Own.alloc (by exact HO2.out) _) ⟨V2.heap.size, 0, none⟩ 1 1 [_] (by rfl) rfl (by exact cell_one_new _ _ _) (by intro u hu; simp at hu; subst hu; rfl) (by rw [HLM.out]; unfold maxLen; omega) (by rw [HLM.out]; omega) (by have := HBr2.out.size; simp; omega) ?_; intro v1 W3 hO2 hG2 HK3))
   have HB3 : Hid (Below Wk.heap.size Wk W3) := (HBr2.out.drew.alloc HBr2.out.size _).grown hG2.out (by have := HBr2.out.size; simp; omega) (fun q hq => by simp [Value.ownBlock] at hq; have := HGW.out; omega)
   have HO3 : Hid (Own W3 Wk.heap.size 59 v1 ((sch C (n + 1)).map uv)) := by
    have e := hO2.out
    have e2 : (sch C n).map uv ++ [Value.int .u64 (U (qb6 x15 + qb4 x2 + x16 + x7))] = (sch C (n + 1)).map uv := by rw [HX.out]; simp [sch]
    rw [← e2]; exact e
   clear HO2 HBr2 hO2 hG2 HK3 f7 f16 HGL2 e7 b7 e16 b16
   go_wp2
   go_roundw
   case rel => exact ⟨n + 1, m + 1, by omega, by show m + 1 = 16 + (n + 1); have := Hm.out; omega, by go_num, HO3, HB3⟩
   case measure => have := Hm.out; simp [intOf]; omega
  ·
   have hn' : n = 64 := by omega
   have hm80 : m = 80 := by rw [Hm.out, hn']
   have bm80 : (80 : Int) ≤ (m : Int) := by omega
   have HN : Hid (n = 64 ∧ m = 80) := ⟨hn', hm80⟩
   clear Hm hn' hm80 hn hn64
   go_wp2_with fail
   exact HEX.out n m u7 _ _ _ _ _ _ _ _ _ _ _ _ _ _ _ _ _ _ _ _ _ _ _ _ _ _ _ _ _ _ _ _ _ _ _ _ _ _ _ _ _ _ _ _ _ _ _ _ _ _ _ _ _ _ _ _ _ _ _ _ _ _ _ _ _ HN.out.1 HN.out.2 HO HBr
end
theorem size4N (n : Nat) : (Tryz.prog.info? 60).map (·.size) = some (qac n).size := qdp
theorem zero4N (w : World) : (zeroValue 60).run Tryz.prog w = .ok (.agg (qac 0)) w := by kernel_rfl
def sd0 (c : UInt8) : UInt8 := UInt8.ofNat (c.toNat / 8 * 8)
def sd31 (c : UInt8) : UInt8 := UInt8.ofNat (c.toNat % 64 + 64)
def sdL (l : List UInt8) : List UInt8 := (l.set 0 (sd0 (l.getD 0 0))).set 31 (sd31 (l.getD 31 0))
theorem andN7 (x : Nat) (h : x < 256) : bits .andNot .u8 (x : Int) 7 = ((x / 8 * 8 : Nat) : Int) := by
 have key : ∀ y : Fin 256, bits .andNot .u8 ((y.val : Nat) : Int) 7 = ((y.val / 8 * 8 : Nat) : Int) := by decide +kernel
 exact key ⟨x, h⟩
theorem or64 (x : Nat) (h : x < 128) : bits .or .u8 (x : Int) 64 = ((x % 64 + 64 : Nat) : Int) := by
 have key : ∀ y : Fin 128, bits .or .u8 ((y.val : Nat) : Int) 64 = ((y.val % 64 + 64 : Nat) : Int) := by decide +kernel
 exact key ⟨x, h⟩
theorem cv_of (n : Nat) (h : n < 256) : Value.int .u8 (n : Int) = cv (UInt8.ofNat n) := by
 show _ = Value.int .u8 (C8 _)
 unfold C8; rw [UInt8.toNat_ofNat', Nat.mod_eq_of_lt h]
section
set_option maxRecDepth 100000 in
set_option maxHeartbeats 1000000 in
theorem seedNumA (l : List UInt8) (hl : l.length = 32) (w : World) :
  Calls Tryz.prog 56 #[.agg (l.map cv).toArray] w fun e w' => e = .returned (.agg (qac (qaC (sdL l)))) ∧ Below w.heap.size w w' := by
 have hz := zero4N
 have HL := qaf hl
 clear hl
 obtain ⟨M, HM⟩ : ∃ M, Hid (M = (l.map cv).toArray) := ⟨_, qaf rfl⟩
 rw [← HM.out]
 obtain ⟨c, Ec⟩ : ∃ c, Hid (c = l.getD 0 0) := ⟨_, qaf rfl⟩
 obtain ⟨d, Ed⟩ : ∃ c, Hid (c = l.getD 31 0) := ⟨_, qaf rfl⟩
 go_enter Tryz.func56, Tryz.ntmps56
 go_upto_region 1 with fail
 generalize hW0 : World.alloc _ _ = W0
 have R1 : Hid (W0.heap[w.heap.size]? = some (.cells (l.map cv).toArray 61 (0, 0))) := by rw [← hW0, ← HM.out]; exact (heap_alloc_old _ _ (by simp)).trans (heap_alloc_new _ _)
 have RZ : Hid (W0.heap[w.heap.size + 1]? = some (.cells (qac 0) 60 (0, 0))) := by rw [← hW0]; exact heap_alloc2_new _ _ _
 have BL : Hid (Below w.heap.size w W0) := by rw [← hW0]; show Below _ _ _; go_grown
 clear hW0
 have c0 : W0.cell? ⟨w.heap.size, 0, none⟩ = some (.int .u8 (C8 c)) := by
  rw [cell_of_row W0 _ 0 _ _ _ R1.out, List.getElem?_toArray, List.getElem?_map, List.getElem?_eq_getElem (by rw [HL.out]; decide)]
  rw [Ec.out]; simp [List.getD, HL.out]
 have f0 := frozen_of_row W0 w.heap.size 0 _ _ R1.out
 obtain ⟨v0, E0⟩ : ∃ v : Int, Hid (v = ((c.toNat / 8 * 8 : Nat) : Int)) := ⟨_, qaf rfl⟩
 have a7 : bits .andNot .u8 (C8 c) 7 = v0 := by rw [E0.out]; exact andN7 c.toNat c.toNat_lt
 have ev0 : Hid (Value.int .u8 v0 = cv (sd0 c)) := by show _ = _; rw [E0.out]; exact cv_of _ (by have := c.toNat_lt; omega)
 go_upto_region 2 with fail
 generalize hW1 : World.setCell _ _ _ = W1
 have R1' : Hid (W1.heap[w.heap.size]? = some (.cells ((l.set 0 (sd0 c)).map cv).toArray 61 (0, 0))) := by
  rw [← hW1, ev0.out]
  have e := qaA R1.out 0 (cv (sd0 c))
  rw [← List.map_set] at e
  exact e
 have RZ' : Hid (W1.heap[w.heap.size + 1]? = some (.cells (qac 0) 60 (0, 0))) := by rw [← hW1]; exact (Below.heap_setCell _ _ _ _ (by simp)).trans RZ.out
 have BL' : Hid (Below w.heap.size w W1) := by rw [← hW1]; exact BL.out.setCell (by show _ ≤ _; simp) _
 clear hW1 R1 RZ BL c0 f0 a7 ev0 E0
 have c1 : W1.cell? ⟨w.heap.size, 31, none⟩ = some (.int .u8 (C8 d)) := by
  rw [cell_of_row W1 _ 31 _ _ _ R1'.out, List.getElem?_toArray, List.getElem?_map, List.getElem?_set_ne (by decide), List.getElem?_eq_getElem (by rw [HL.out]; decide)]
  rw [Ed.out]; simp [List.getD, HL.out]
 have f1 := frozen_of_row W1 w.heap.size 31 _ _ R1'.out
 obtain ⟨v1, E1⟩ : ∃ v : Int, Hid (v = ((d.toNat % 128 : Nat) : Int)) := ⟨_, qaf rfl⟩
 have a8 : bits .andNot .u8 (C8 d) 128 = v1 := by rw [E1.out]; exact andNot128 d.toNat d.toNat_lt
 have ev1 : Hid (Value.int .u8 v1 = cv (UInt8.ofNat (d.toNat % 128))) := by show _ = _; rw [E1.out]; exact cv_of _ (by omega)
 go_upto_region 3 with fail
 generalize hW2 : World.setCell _ _ _ = W2
 have R2 : Hid (W2.heap[w.heap.size]? = some (.cells (((l.set 0 (sd0 c)).set 31 (UInt8.ofNat (d.toNat % 128))).map cv).toArray 61 (0, 0))) := by
  rw [← hW2, ev1.out]
  have e := qaA R1'.out 31 (cv (UInt8.ofNat (d.toNat % 128)))
  rw [← List.map_set] at e
  exact e
 have RZ2 : Hid (W2.heap[w.heap.size + 1]? = some (.cells (qac 0) 60 (0, 0))) := by rw [← hW2]; exact (Below.heap_setCell _ _ _ _ (by simp)).trans RZ'.out
 have BL2 : Hid (Below w.heap.size w W2) := by rw [← hW2]; exact BL'.out.setCell (by show _ ≤ _; simp) _
 clear hW2 R1' RZ' BL' c1 f1 a8
 have c2 : W2.cell? ⟨w.heap.size, 31, none⟩ = some (.int .u8 v1) := by
  rw [cell_of_row W2 _ 31 _ _ _ R2.out, List.getElem?_toArray, List.getElem?_map, List.getElem?_set_self (by rw [List.length_set, HL.out]; decide), ev1.out]; rfl
 have f2 := frozen_of_row W2 w.heap.size 31 _ _ R2.out
 obtain ⟨v2, E2⟩ : ∃ v : Int, Hid (v = ((d.toNat % 64 + 64 : Nat) : Int)) := ⟨_, qaf rfl⟩
 have a9 : bits .or .u8 v1 64 = v2 := by
  rw [E1.out, E2.out, or64 _ (Nat.mod_lt _ (by decide))]
  congr 1; omega
 have ev2 : Hid (Value.int .u8 v2 = cv (sd31 d)) := by show _ = _; rw [E2.out]; exact cv_of _ (by omega)
 go_upto_region 4 with fail
 generalize hW3 : World.setCell _ _ _ = W3
 have R3 : Hid (W3.heap[w.heap.size]? = some (.cells ((sdL l).map cv).toArray 61 (0, 0))) := by
  rw [← hW3, ev2.out]
  have e := qaA R2.out 31 (cv (sd31 d))
  rw [← List.map_set, List.set_set] at e
  unfold sdL
  rw [← Ec.out, ← Ed.out]
  exact e
 have RZ3 : Hid (W3.heap[w.heap.size + 1]? = some (.cells (qac 0) 60 (0, 0))) := by rw [← hW3]; exact (Below.heap_setCell _ _ _ _ (by simp)).trans RZ2.out
 have BL3 : Hid (Below w.heap.size w W3) := by rw [← hW3]; exact BL2.out.setCell (by show _ ≤ _; simp) _
 clear hW3 R2 RZ2 BL2 c2 f2 a9
 have hls : (sdL l).length = 32 := by unfold sdL; rw [List.length_set, List.length_set]; exact HL.out
 obtain ⟨A, HA⟩ : ∃ A, Hid (A = ((sdL l).map cv).toArray) := ⟨_, qaf rfl⟩
 rw [← HA.out] at R3
 have HSz : Hid ((Tryz.prog.info? 61).map (·.size) = some A.size) := by show _ = _; rw [HA.out, size32]; simp [hls]
 go_wp2_with (first
  | (refine wpList_load_row (by rfl) 61 (.tmp 1) (by rfl) w.heap.size (by rfl) 61 A (0, 0) _ R3.out qdc rfl HSz.out ?_))
 refine (ofBytes_list (sdL l) hls A HA.out W3).mono ?_
 rintro e W4 ⟨rfl, hB⟩
 have RZ4 := qaf (qaa RZ3.out hB)
 have BL4 := kTr BL3 hB
 clear hB R3 RZ3 BL3
 obtain ⟨N, HN⟩ : ∃ n, Hid (n = qaC (sdL l)) := ⟨_, qaf rfl⟩
 rw [← HN.out]
 go_wp2_with (first | (refine wpList_store_row (by rfl) 60 (.tmp 2) (.tmp 16) (by rfl) (w.heap.size + 1) (qac N) (by rfl) (by rfl) 60 _ RZ4.out (size4N _) (qbt _ _) (qaq _) ?_))
 refine bodyPost_ret (v := .agg (qac N)) (results_cell_row Tryz.results56 _ _ (w.heap.size + 1) 60 _ (0, 0) _ (by rfl) (setRow_heap _ _ _ _ _ _ RZ4.out) qbh rfl (size4N _)) rfl ⟨by rw [HN.out], below_setRow BL4.out (by omega) _⟩
end
end Go.Proofs.YtccgfabojbjmjaaGreatDoor
