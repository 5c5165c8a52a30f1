import Derived.Test.YtcnbhpghcjcejaaDoorSum
namespace Go.Proofs.YtcnbhpghcjcejaaDoor
open Go.RowKit
def iv : S8 := ⟨7640891576956012808#64, 13503953896175478587#64, 4354685564936845355#64, 11912009170470909681#64, 5840696475078001361#64, 11170449401992604703#64, 2270897969802886507#64, 6620516959819538809#64⟩
def H0 : HS := ⟨iv, List.replicate 128 0, 0⟩
theorem H0_len : H0.blk.length = 128 := by simp [H0]
def r0 : Array Value := H0.row.toArray
theorem built47 : Tryd.prog.built 47 [(0, .int .u64 7640891576956012808), (1, .int .u64 13503953896175478587), (2, .int .u64 4354685564936845355), (3, .int .u64 11912009170470909681), (4, .int .u64 5840696475078001361), (5, .int .u64 11170449401992604703), (6, .int .u64 2270897969802886507), (7, .int .u64 6620516959819538809)] = some (w8 iv).toArray := by kernel_rfl
theorem built50 : Tryd.prog.built 50 [(0, .agg (w8 iv).toArray)] = some r0 := by kernel_rfl
theorem wpList_build_to {P : Program} {ops : Array Oper} {rest : List Oper} {o : Oper} {a : Act} {w : World} {Q : Exit → Act → World → Prop} (hg : o.guard = none) (t : TypeId) (parts : Array (Nat × Operand)) (ho : o.op = .build t parts) (cells : Array Value)
    (hb : P.built t (parts.map fun (i, x) => (i, a.eval x)).toList = some cells) (h : wpList P ops Q rest (a.put o.dst (.agg cells)) w) : wpList P ops Q (o :: rest) a w :=
  wpList_build hg t parts ho (by rw [hb]; rfl) (by rw [hb]; exact h)
theorem r0_size : (Tryd.prog.info? 50).map (·.size) = some r0.size := by rw [sizeH]; simp [r0, H0.row_length H0_len]
theorem r0_zH : zH.size = r0.size := by
  have h1 : zH.size = 138 := by unfold zH; rw [List.size_toArray]; exact HS.row_length _ (by simp)
  rw [h1]; simp [r0, H0.row_length H0_len]
theorem r0_cell : r0.all (·.oneCell') = true := all_oneCell_toArray (row_cell H0)
section
set_option maxRecDepth 100000 in
set_option maxHeartbeats 4000000 in
theorem new_any (w : World) :
    Calls Tryd.prog 17 #[] w fun e w' => e = .returned (.agg r0) ∧ Below w.heap.size w w' := by
  have hzH := zeroH
  go_enter Tryd.func17, Tryd.ntmps17
  obtain ⟨fs, huH⟩ := underH
  have HU : Hid (Tryd.prog.underlying 50 = some (.struct fs)) := huH
  clear huH
  go_wp2_with (first
    | (refine wpList_build_to (by rfl) 47 _ (by rfl) (w8 iv).toArray (by exact built47) ?_)
    | (refine wpList_build_to (by rfl) 50 _ (by rfl) r0 (by exact built50) ?_)
    | (refine wpList_store_row (by rfl) 50 (.tmp 0) (.tmp 2) (by rfl) w.heap.size r0 (by rfl) (by rfl) 50 _ (heap_alloc_new _ _) r0_size r0_zH r0_cell ?_))
  refine bodyPost_ret (v := .agg r0) (results_cell_row Tryd.results17 _ _ w.heap.size 50 r0 (0, 0) _ (by rfl) (setRow_heap _ _ _ _ _ _ (heap_alloc_new _ _)) HU.out rfl r0_size) rfl ⟨rfl, below_setRow ((Below.refl _ _).alloc (Nat.le_refl _) _) (Nat.le_refl _) _⟩

/-- 'string(sum[:])' of 64 bytes in a block. -/
theorem slice64_all (b o : Nat) (w : World) :
    (Instr.sliceAt 37 (.pointer (some ⟨b, o, none⟩)) none none none).run Tryd.prog w = .ok (.slice (some ⟨b, o, none⟩) 64 64) w := by
  cases hq : Tryd.prog.info? 5 with
  | none => have := sizeU8; rw [hq] at this; cases this
  | some i =>
    simp [Instr.sliceAt, Instr.sureAddr, run_underlying under64, Instr.sliceBounds, sizeOf, typeInfo, hq, Addr.add]

noncomputable def hashOf (l : List UInt8) : List UInt8 := (H0.puts l).sum
theorem hashOf_length (l : List UInt8) : (hashOf l).length = 64 := HS.sum_length _

set_option maxRecDepth 100000 in
set_option maxHeartbeats 4000000 in
theorem of_any (s : ByteArray) (w : World) (hK : Tab w) (hs : s.size ≤ maxLen) :
    Calls Tryd.prog 12 #[.string s] w fun e w' => e = .returned (.agg ((hashOf (bytesOf s)).map cv).toArray) ∧ Below w.heap.size w w' := by
  have hz := zero64
  have hzH := zeroH
  have HK : Hid (Tab w) := hK
  clear hK
  go_enter Tryd.func12, Tryd.ntmps12
  go_wp2_with (first
    | (go_at_call 17; refine (new_any _).mono ?_; rintro e W1 ⟨rfl, hB1⟩)
    | (refine wpList_store_row (by rfl) 50 (.tmp 3) (.tmp 4) (by rfl) W1.heap.size r0 (by rfl) (by rfl) 50 _ (heap_alloc_new _ _) r0_size r0_zH r0_cell ?_))
  obtain ⟨V, hV⟩ : ∃ V, V = (W1.alloc (.cells zH 50)).setRow W1.heap.size r0 := ⟨_, rfl⟩
  rw [← hV]
  obtain ⟨g, hg⟩ : ∃ g, g = W1.heap.size := ⟨_, rfl⟩
  rw [← hg]
  have hgs : w.heap.size < g := by have := hB1.size; simp at this; omega
  have hBw : Below w.heap.size w W1 := ((Below.refl _ _).alloc (Nat.le_refl _) _).trans (hB1.mono (by simp))
  have hAV : Has V g 50 H0 := ⟨by rw [hV, hg]; exact setRow_heap _ _ _ _ _ _ (heap_alloc_new _ _), H0_len⟩
  have hBV : Below w.heap.size w V := by rw [hV]; exact below_setRow (hBw.alloc (by omega) _) (by omega) _
  have hRV : V.heap[w.heap.size]? = some (.cells z64 37 (0, 0)) := by
    rw [hV, setRow_other _ _ _ _ (by omega), heap_alloc_old _ _ (by omega), hB1.block _ (by simp)]; exact heap_alloc_new _ _
  have hKV : Tab V := HK.out.below hBV HK.out.lt
  clear hV hg hB1 hBw hz hzH
  refine (write_any g 50 H0 s V hAV hKV (by omega) hs).mono ?_
  rintro e V2 ⟨rfl, hA2, hT2⟩
  have hB2 : Hid (Below w.heap.size w V2) := hBV.trans (hT2.below (by omega) hBV.size)
  have hR2 : Hid (V2.heap[w.heap.size]? = some (.cells z64 37 (0, 0))) := (hT2.block _ (by have := hAV.lt; omega) (by omega)).trans hRV
  have hA2' : Hid (Has V2 g 50 (H0.puts (bytesOf s))) := hA2
  have hK2 : Hid (Tab V2) := hKV.turn hT2 (by omega)
  clear hAV hBV hRV hKV hA2 hT2
  go_wp2_with fail
  refine (sum_any g 50 _ V2 hA2'.out hK2.out).mono ?_
  rintro e V3 ⟨rfl, hB3⟩
  obtain ⟨M, HM⟩ : ∃ M, Hid (M = ((H0.puts (bytesOf s)).sum).map cv) := ⟨_, rfl⟩
  rw [← HM.out]
  have hMl : M.length = 64 := by rw [HM.out, List.length_map, HS.sum_length]
  have HSz : Hid ((Tryd.prog.info? 37).map (·.size) = some M.toArray.size) := by show _ = _; rw [size64]; simp [hMl]
  have HO : Hid (z64.size = M.toArray.size) := by show _ = _; simp [hMl]; rfl
  have HA : Hid (M.toArray.all (·.oneCell') = true) := by rw [HM.out]; exact all_oneCell_toArray (cvs_cell _)
  have hlt2 : w.heap.size < V2.heap.size := by have := hA2'.out.lt; omega
  have hR3 : Hid (V3.heap[w.heap.size]? = some (.cells z64 37 (0, 0))) := (hB3.block _ hlt2).trans hR2.out
  have hB3' : Hid (Below w.heap.size w V3) := hB2.out.trans (hB3.mono (by omega))
  clear hB3 hA2' hK2 hR2 hB2 hMl hlt2
  go_wp2_with (first | (refine wpList_store_row (by rfl) 37 (.tmp 2) (.tmp 7) (by rfl) w.heap.size M.toArray (by rfl) (by rfl) 37 _ hR3.out HSz.out HO.out HA.out ?_))
  refine bodyPost_ret (v := .agg M.toArray) (results_cell_row Tryd.results12 _ _ w.heap.size 37 M.toArray (0, 0) _ (by rfl) (setRow_heap _ _ _ _ _ _ hR3.out) under64 rfl HSz.out) rfl ⟨by rw [HM.out]; rfl, below_setRow hB3'.out (Nat.le_refl _) _⟩
end
end Go.Proofs.YtcnbhpghcjcejaaDoor
