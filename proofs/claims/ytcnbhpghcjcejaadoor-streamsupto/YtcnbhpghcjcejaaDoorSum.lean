import Derived.Test.YtcnbhpghcjcejaaDoorPutEnd
namespace Go.Proofs.YtcnbhpghcjcejaaDoor
open Go.RowKit

/-- The bytes of the first k words, noughts behind them. -/
def sumTo (ws : List (BitVec 64)) (k : Nat) : List UInt8 := (ws.take k).flatMap be8 ++ List.replicate (64 - 8 * k) 0
theorem be8_length (x : BitVec 64) : (be8 x).length = 8 := rfl
theorem flat_length (ws : List (BitVec 64)) : (ws.flatMap be8).length = 8 * ws.length := by
  induction ws with
  | nil => rfl
  | cons x l ih => simp only [List.flatMap_cons, List.length_append, ih, be8_length, List.length_cons]; omega
theorem sumTo_length (ws : List (BitVec 64)) (k : Nat) (hw : ws.length = 8) (hk : k ≤ 8) : (sumTo ws k).length = 64 := by
  unfold sumTo; rw [List.length_append, flat_length, List.length_take, List.length_replicate]; omega
theorem layB_cv (l : List UInt8) (off : Nat) (x : BitVec 64) (k : Nat) : lay (l.map cv) off x k = (layB l off x k).map cv := by
  induction k with
  | zero => rfl
  | succ k ih => simp only [lay, layB, ih, List.map_set]
theorem sumTo_step (ws : List (BitVec 64)) (k : Nat) (hw : ws.length = 8) (hk : k < 8) : layB (sumTo ws k) (8 * k) (ws.getD k 0) 8 = sumTo ws (k + 1) := by
  rw [layB_all _ _ _ (by rw [sumTo_length ws k hw (by omega)]; omega)]
  have hl : ((ws.take k).flatMap be8).length = 8 * k := by rw [flat_length, List.length_take]; omega
  have e1 : (sumTo ws k).take (8 * k) = (ws.take k).flatMap be8 := by
    unfold sumTo; rw [List.take_append_of_le_length (by omega)]; exact List.take_of_length_le (by omega)
  have e2 : (sumTo ws k).drop (8 * k + 8) = List.replicate (64 - 8 * (k + 1)) 0 := by
    unfold sumTo; rw [List.drop_append, List.drop_eq_nil_of_le (by omega), hl, List.drop_replicate, List.nil_append]
    congr 1; omega
  rw [e1, e2]
  unfold sumTo
  have e3 : ws.take (k + 1) = ws.take k ++ [ws.getD k 0] := by
    rw [List.take_succ_eq_append_getElem (by omega)]; simp [List.getD, List.getElem?_eq_getElem (show k < ws.length by omega)]
  rw [e3, List.flatMap_append, List.append_assoc]
  simp
noncomputable def HS.sum (H : HS) : List UInt8 := H.ended.st.words.flatMap be8
theorem HS.sum_length (H : HS) : H.sum.length = 64 := by unfold HS.sum; rw [flat_length]; rfl
theorem sumTo_all (H : HS) : sumTo H.ended.st.words 8 = H.sum := by
  unfold sumTo HS.sum
  rw [List.take_of_length_le (by rw [S8.words_length]; exact Nat.le_refl _)]; simp

theorem under64 : Tryd.prog.underlying 37 = some (.array 64 5) := by kernel_rfl
theorem size64 : (Tryd.prog.info? 37).map (·.size) = some 64 := by kernel_rfl
theorem underH : ∃ fs, Tryd.prog.underlying 50 = some (.struct fs) := ⟨_, Tryd.underlying50⟩
theorem sizeH : (Tryd.prog.info? 50).map (·.size) = some 138 := by kernel_rfl
def z64 : Array Value := ((List.replicate 64 (0 : UInt8)).map cv).toArray
theorem zero64 (w : World) : (zeroValue 37).run Tryd.prog w = .ok (.agg z64) w := by kernel_rfl
def zH : Array Value := (HS.row ⟨⟨0, 0, 0, 0, 0, 0, 0, 0⟩, List.replicate 128 0, 0⟩).toArray
theorem zeroH (w : World) : (zeroValue 50).run Tryd.prog w = .ok (.agg zH) w := by kernel_rfl
theorem slice64 (b o : Nat) (z : Int) (l : Nat) (hz : z = l) (hl : l < 64) (w : World) :
    (Instr.sliceAt 37 (.pointer (some ⟨b, o, none⟩)) (some (.int .i64 z)) none none).run Tryd.prog w = .ok (.slice (some ⟨b, o + l, none⟩) (64 - l) (64 - l)) w := by
  subst hz
  have h1 : ((l : Int) ≤ 64) := by omega
  have h2 : ¬ 64 = l := by omega
  cases hq : Tryd.prog.info? 5 with
  | none => have := sizeU8; rw [hq] at this; cases this
  | some i =>
    have hi : i.size = 1 := by have := sizeU8; rw [hq] at this; simpa using this
    simp [Instr.sliceAt, Instr.sureAddr, run_underlying under64, Instr.sliceBounds, run_sliceBound, sizeOf, typeInfo, hq, hi, h1, h2, Addr.add]
theorem index8w (s : S8) (j : Nat) (hj : j < 8) : ∀ w, (Instr.index 47 (.agg (w8 s).toArray) (.int .i64 j)).run Tryd.prog w = .ok (.int .u64 (U (s.words.getD j 0))) w := index8 s j hj
theorem row_cell (H : HS) : ∀ v ∈ H.row, v.oneCell' = true := by
  intro v hv
  unfold HS.row at hv
  rcases List.mem_append.1 hv with h | h
  · obtain ⟨x, _, rfl⟩ := List.mem_map.1 h; rfl
  · rcases List.mem_append.1 h with h | h
    · obtain ⟨x, _, rfl⟩ := List.mem_map.1 h; rfl
    · simp at h; rcases h with rfl | rfl <;> rfl
theorem cvs_cell (l : List UInt8) : ∀ v ∈ l.map cv, v.oneCell' = true := by
  intro v hv; obtain ⟨x, _, rfl⟩ := List.mem_map.1 hv; rfl
theorem has_range {w : World} {b : Nat} {T : TypeId} {H : HS} (h : Has w b T H) : w.rangeAt b 0 (w8 H.st) := by
  intro j v hv
  have hj : j < 8 := by
    rcases Nat.lt_or_ge j 8 with g | g
    · exact g
    · rw [List.getElem?_eq_none (by simpa [w8, S8.words] using g)] at hv; cases hv
  rw [Nat.zero_add, h.cell j]
  unfold HS.row; rw [List.getElem?_append_left (by simpa [S8.words] using hj)]; exact hv

section
attribute [local go_sem] U_and U_or U_xor U_not U_add U_add_one
attribute [local go_sem ↓] Go.wp_at_zero Go.wp_at_succ
set_option maxRecDepth 100000 in
set_option maxHeartbeats 4000000 in
theorem sum_any (b : Nat) (T : TypeId) (H : HS) (w : World) (h : Has w b T H) (hK : Tab w) :
    Calls Tryd.prog 19 #[.pointer (some ⟨b, 0, none⟩)] w fun e w' => e = .returned (.agg (H.sum.map cv).toArray) ∧ Below w.heap.size w w' := by
  have hz := zero64
  have hzH := zeroH
  have HH : Hid (Has w b T H) := h
  have HK : Hid (Tab w) := hK
  have hb : b < w.heap.size := h.lt
  obtain ⟨fs, huH⟩ := underH
  have HU : Hid (Tryd.prog.underlying 50 = some (.struct fs)) := huH
  clear h hK huH
  obtain ⟨R, HR⟩ : ∃ R, Hid (R = H.row) := ⟨_, rfl⟩
  have hRl : R.length = 138 := by rw [HR.out]; exact H.row_length HH.out.len
  have HSz : Hid ((Tryd.prog.info? 50).map (·.size) = some R.toArray.size) := by show _ = _; rw [sizeH]; simp [hRl]
  have HO : Hid (zH.size = R.toArray.size) := by show _ = _; simp [hRl]; rfl
  have HA : Hid (R.toArray.all (·.oneCell') = true) := by rw [HR.out]; exact all_oneCell_toArray (row_cell H)
  have HG : Hid ((w.alloc (.cells z64 37)).heap[b]? = some (.cells R.toArray T (0, 0))) := by
    rw [HR.out]; exact (heap_alloc_old w _ hb).trans HH.out.heap
  clear hRl
  go_enter Tryd.func19, Tryd.ntmps19
  go_wp2_with (first
    | (refine wpList_load_row (by rfl) 50 (.tmp 8) (by rfl) b (by rfl) T R.toArray (0, 0) _ HG.out HU.out rfl HSz.out ?_)
    | (refine wpList_store_row (by rfl) 50 (.tmp 3) (.tmp 9) (by rfl) (w.heap.size + 1) R.toArray (by rfl) (by rfl) 50 _ (heap_alloc2_new _ _ _) HSz.out HO.out HA.out ?_))
  obtain ⟨W1, hW1⟩ : ∃ W1, W1 = ((w.alloc (.cells z64 37)).alloc (.cells zH 50)).setRow (w.heap.size + 1) R.toArray := ⟨_, rfl⟩
  rw [← hW1]
  obtain ⟨g, hg⟩ : ∃ g, g = w.heap.size + 1 := ⟨_, rfl⟩
  rw [← hg]
  have hgs : w.heap.size < g := by omega
  have hA1 : Has W1 g 50 H := by
    refine ⟨?_, HH.out.len⟩
    rw [hW1, hg, setRow_heap _ _ _ _ _ _ (heap_alloc2_new _ _ _), HR.out]
  have hB1 : Below w.heap.size w W1 := by
    rw [hW1]; exact below_setRow (((Below.refl _ _).alloc (Nat.le_refl _) _).alloc (by simp) _) (by omega) _
  have hR1 : W1.heap[w.heap.size]? = some (.cells z64 37 (0, 0)) := by
    rw [hW1, setRow_other _ _ _ _ (by omega)]; exact heap_alloc2_old _ _ _
  clear hW1 hg HG HA HO HSz HU HR hz hzH
  refine (putEnd_any g 50 H W1 hA1 (HK.out.below hB1 (by have := HK.out.lt; omega)) (by omega)).mono ?_
  rintro e W2 ⟨rfl, hA2, hT2⟩
  have hB2 : Hid (Below w.heap.size w W2) := hB1.trans (hT2.below (by omega) hB1.size)
  have hR2 : Hid (W2.heap[w.heap.size]? = some (.cells z64 37 (0, 0))) := (hT2.block _ (by have := hA1.lt; omega) (by omega)).trans hR1
  have hA2' : Hid (W2.rangeAt g 0 (w8 H.ended.st)) := has_range hA2
  have hg2 : g < W2.heap.size := hA2.lt
  clear hA1 hB1 hR1 hA2 hT2
  obtain ⟨S, HS'⟩ : ∃ S, Hid (S = H.ended.st) := ⟨_, rfl⟩
  rw [← HS'.out] at hA2'
  have hz := zero64
  have HRA : Hid ((W2.alloc (.cells z64 37)).rangeAt g 0 (w8 S)) := World.rangeAt_alloc hA2'.out _
  go_wp2_with (first | (refine wpList_load_mid (by rfl) 47 (.tmp 11) (by rfl) g 0 (by rfl) (w8 S) _ HRA.out under8 rfl size8 ?_))
  clear hz HRA
  obtain ⟨q, hq⟩ : ∃ q, q = W2.heap.size := ⟨_, rfl⟩
  rw [← hq]
  go_loopw [13] (fun i wr => ∃ k : Nat, k ≤ 8 ∧ i = .int .i64 k ∧ Hid (wr.heap[q]? = some (.cells ((sumTo S.words k).map cv).toArray 37 (0, 0))) ∧ Hid (wr.heap[w.heap.size]? = some (.cells z64 37 (0, 0))) ∧ Hid (Below w.heap.size w wr)) (fun i _ => 8 - (intOf i).toNat)
  case atStart => exact ⟨0, Nat.zero_le _, rfl, by rw [hq]; exact heap_alloc_new W2 _, (heap_alloc_old W2 _ (by omega)).trans hR2.out, hB2.out.alloc (by omega) _⟩
  case round =>
    have hqs : Hid (w.heap.size < q) := by rw [hq]; show _ < _; omega
    clear hR2 hB2 hA2' hg2 hgs hq
    obtain ⟨k, hk, rfl, hr, hr0, hbel⟩ := hrel
    by_cases hlt : k < 8
    · have bk : (k : Int) < 8 := by omega
      have hidx := index8w S k hlt
      have hsl := slice64 q 0 (8 * (k : Int)) (8 * k) (by omega) (by omega)
      generalize hx : S.words.getD k 0 = x at hidx
      have HX : Hid (S.words.getD k 0 = x) := hx
      clear hx
      go_wp2_with fail
      refine (putWord_any q (8 * k) (64 - 8 * k) (64 - 8 * k) 37 _ x wr (by omega) (by omega) hr.out (by rw [List.length_map, sumTo_length _ _ (S8.words_length S) hk]; omega)).mono ?_
      rintro e V ⟨rfl, hrow, hturn⟩
      have hrow' : Hid (V.heap[q]? = some (.cells ((sumTo S.words (k + 1)).map cv).toArray 37 (0, 0))) := by
        have e := hrow
        rw [layB_cv, ← HX.out, sumTo_step _ _ (S8.words_length S) hlt] at e
        exact e
      have hr0' : Hid (V.heap[w.heap.size]? = some (.cells z64 37 (0, 0))) := (hturn.block _ (by rcases Nat.lt_or_ge w.heap.size wr.heap.size with g | g; exact g; have := hr0.out; rw [Array.getElem?_eq_none g] at this; cases this) (by have := hqs.out; omega)).trans hr0.out
      have hbel' : Hid (Below w.heap.size w V) := hbel.out.trans (hturn.below (by have := hqs.out; omega) hbel.out.size)
      clear hrow hturn hr hr0 hbel
      go_wp2_with fail
      go_roundw
      case rel => exact ⟨k + 1, by omega, by go_num, hrow', hr0', hbel'⟩
      case measure => simp [intOf]; omega
    · have hk8 : k = 8 := by omega
      have hk' : (8 : Int) ≤ (k : Int) := by omega
      obtain ⟨M, HM⟩ : ∃ M, Hid (M = (H.sum.map cv)) := ⟨_, rfl⟩
      have hr' : Hid (wr.heap[q]? = some (.cells M.toArray 37 (0, 0))) := by
        have := hr.out; rw [hk8, HS'.out, sumTo_all, ← HM.out] at this; exact this
      have hMl : M.length = 64 := by rw [HM.out, List.length_map, H.sum_length]
      have HSz : Hid ((Tryd.prog.info? 37).map (·.size) = some M.toArray.size) := by show _ = _; rw [size64]; simp [hMl]
      have HO : Hid (z64.size = M.toArray.size) := by show _ = _; simp [hMl]; rfl
      have HA : Hid (M.toArray.all (·.oneCell') = true) := by rw [HM.out]; exact all_oneCell_toArray (cvs_cell _)
      clear hr hk8 hlt hk hMl
      go_wp2_with (first | (refine wpList_load_row (by rfl) 37 (.tmp 4) (by rfl) q (by rfl) 37 M.toArray (0, 0) _ hr'.out under64 rfl HSz.out ?_) | (refine wpList_store_row (by rfl) 37 (.tmp 2) (.tmp 23) (by rfl) w.heap.size M.toArray (by rfl) (by rfl) 37 _ hr0.out HSz.out HO.out HA.out ?_))
      refine bodyPost_ret (v := .agg M.toArray) (results_cell_row Tryd.results19 _ _ w.heap.size 37 M.toArray (0, 0) _ (by rfl) (setRow_heap _ _ _ _ _ _ hr0.out) under64 rfl HSz.out) rfl ⟨by rw [HM.out], below_setRow hbel.out (Nat.le_refl _) _⟩
end
end Go.Proofs.YtcnbhpghcjcejaaDoor
