import Derived.Test.YtccgfabojbjmjaaGreatDoorPx33
import Derived.Test.YtccgfabojbjmjaaGreatDoorPx40
namespace Go.Proofs.YtccgfabojbjmjaaGreatDoor
open Go.RowKit
section
set_option maxRecDepth 100000 in
set_option maxHeartbeats 1600000 in
theorem as_no_sz (E : Value) (g : Nat) (w : World) (hE : w.cell? ⟨3, 0, none⟩ = some (rtV 66))
  (hc : ∀ (q : Nat) (W : World), Calls Tryz.prog 99 #[.iface 173 E, .iface 138 (.pointer (some ⟨g, 0, none⟩)), .agg (rvA 138 q 150), rtV 134] W fun e w' => e = .returned (.bool false) ∧ Below W.heap.size W w') :
  Calls Tryz.prog 59 #[.iface 173 E, .iface 138 (.pointer (some ⟨g, 0, none⟩))] w fun e w' => e = .returned (.bool false) ∧ Below w.heap.size w w' := by
 have h1 := valueOf_sz g
 have h2 := type_sz
 have hz := zeroRV
 have hk1 := kind_psz
 have hk2 := kind_sz
 have he := elemT_sz
 have hi := impl_sz
 have HC := hide hc
 clear hc
 go_enter Tryz.func59, Tryz.ntmps59
 go_upto_region 6 with (first
  | (refine wpList_store_row (by rfl) 185 (.tmp 5) (.tmp 14) (by rfl) (w.heap.size + 1) (rvA 138 w.heap.size 150) (by rfl) (by rfl) 185 _ (heap_alloc2_new _ _ _) (rvA_size _ _ _) rfl (rvA_all _ _ _) ?_))
 try rw [put_none']
 generalize hW1 : World.setRow _ _ _ = W1
 have hB1 : Hid (Below w.heap.size w W1) := by
  rw [← hW1]; exact below_setRow (((Below.refl _ _).alloc (Nat.le_refl _) _).alloc (by simp) _) (by omega) _
 have R5 : Hid (W1.heap[w.heap.size + 1]? = some (.cells (rvA 138 w.heap.size 150) 185 (0, 0))) := by rw [← hW1]; exact setRow_heap _ _ _ _ _ _ (heap_alloc2_new _ _ _)
 have RP : Hid (W1.heap[w.heap.size]? = some (.cells #[.pointer (some ⟨g, 0, none⟩)] 138 (0, 0))) := by rw [← hW1]; exact (setRow_other _ _ _ _ (by omega)).trans ((heap_alloc_old _ _ (by simp)).trans (heap_alloc_new _ _))
 have h3 := isNil_sz g w.heap.size W1 RP.out
 have hE1 : W1.cell? ⟨3, 0, none⟩ = some (rtV 66) := (hB1.out.cell (World.block_lt_of_cell? w _ hE)).trans hE
 clear hW1 h1
 go_wp2_with (first
  | (refine wpList_load_rowG (by rfl) 185 (.tmp 5) (by rfl) (w.heap.size + 1) (by rfl) 185 (rvA 138 w.heap.size 150) (0, 0) _ R5.out Tryz.underlying185 rfl (rvA_size _ _ _) ?_))
 refine (HC.out w.heap.size W1).mono ?_
 rintro e W2 ⟨rfl, hB2⟩
 have BW := kTr hB1 hB2
 clear hB2 h2 hz hk1 hk2 he hi h3 HC
 go_wp2
 go_ret
 exact ⟨rfl, BW.out⟩
set_option maxRecDepth 100000 in
set_option maxHeartbeats 1600000 in
theorem as_no_im (E : Value) (g : Nat) (w : World) (hE : w.cell? ⟨3, 0, none⟩ = some (rtV 66))
  (hc : ∀ (q : Nat) (W : World), Calls Tryz.prog 99 #[.iface 173 E, .iface 139 (.pointer (some ⟨g, 0, none⟩)), .agg (rvA 139 q 150), rtV 136] W fun e w' => e = .returned (.bool false) ∧ Below W.heap.size W w') :
  Calls Tryz.prog 59 #[.iface 173 E, .iface 139 (.pointer (some ⟨g, 0, none⟩))] w fun e w' => e = .returned (.bool false) ∧ Below w.heap.size w w' := by
 have h1 := valueOf_szI g
 have h2 := type_szI
 have hz := zeroRV
 have hk1 := kind_pszI
 have hk2 := kind_szI
 have he := elemT_szI
 have hi := impl_szI
 have HC := hide hc
 clear hc
 go_enter Tryz.func59, Tryz.ntmps59
 go_upto_region 6 with (first
  | (refine wpList_store_row (by rfl) 185 (.tmp 5) (.tmp 14) (by rfl) (w.heap.size + 1) (rvA 139 w.heap.size 150) (by rfl) (by rfl) 185 _ (heap_alloc2_new _ _ _) (rvA_size _ _ _) rfl (rvA_all _ _ _) ?_))
 try rw [put_none']
 generalize hW1 : World.setRow _ _ _ = W1
 have hB1 : Hid (Below w.heap.size w W1) := by
  rw [← hW1]; exact below_setRow (((Below.refl _ _).alloc (Nat.le_refl _) _).alloc (by simp) _) (by omega) _
 have R5 : Hid (W1.heap[w.heap.size + 1]? = some (.cells (rvA 139 w.heap.size 150) 185 (0, 0))) := by rw [← hW1]; exact setRow_heap _ _ _ _ _ _ (heap_alloc2_new _ _ _)
 have RP : Hid (W1.heap[w.heap.size]? = some (.cells #[.pointer (some ⟨g, 0, none⟩)] 139 (0, 0))) := by rw [← hW1]; exact (setRow_other _ _ _ _ (by omega)).trans ((heap_alloc_old _ _ (by simp)).trans (heap_alloc_new _ _))
 have h3 := isNil_szI g w.heap.size W1 RP.out
 have hE1 : W1.cell? ⟨3, 0, none⟩ = some (rtV 66) := (hB1.out.cell (World.block_lt_of_cell? w _ hE)).trans hE
 clear hW1 h1
 go_wp2_with (first
  | (refine wpList_load_rowG (by rfl) 185 (.tmp 5) (by rfl) (w.heap.size + 1) (by rfl) 185 (rvA 139 w.heap.size 150) (0, 0) _ R5.out Tryz.underlying185 rfl (rvA_size _ _ _) ?_))
 refine (HC.out w.heap.size W1).mono ?_
 rintro e W2 ⟨rfl, hB2⟩
 have BW := kTr hB1 hB2
 clear hB2 h2 hz hk1 hk2 he hi h3 HC
 go_wp2
 go_ret
 exact ⟨rfl, BW.out⟩
set_option maxRecDepth 100000 in
set_option maxHeartbeats 1600000 in
theorem asL_yes_im2 (p2 p1 : ByteArray) (c : Int) (g q : Nat) (w : World) (hq : w.heap[q]? = some (.cells #[.pointer (some ⟨g, 0, none⟩)] 139 (0, 0))) (hg : w.heap[g]? = some (.cells #[.int .i64 0] 136 (0, 0))) :
  Calls Tryz.prog 99 #[atE p2 (atE p1 (imI c)), .iface 139 (.pointer (some ⟨g, 0, none⟩)), .agg (rvA 139 q 150), rtV 136] w fun e w' => e = .returned (.bool true) ∧ Below g w w' ∧ w'.heap[g]? = some (.cells #[.int .i64 c] 136 (0, 0)) := by
 have ht := typeOf_any
 have ha1 := asg_at_im
 have ha2 := asg_im_im
 have nA := noAsAt
 have uA := hasUnwrapAt
 unfold atE
 have Hq : Hid _ := hq
 have Hg : Hid _ := hg
 have HGW : Hid (g < w.heap.size) := lt_row hg
 clear hq hg
 go_enter Tryz.func99, Tryz.ntmps99
 go_wp2_with fail
 obtain ⟨W0, hW0⟩ : ∃ W, W = w.alloc (.cells (rvA 139 q 150) 185) := ⟨_, rfl⟩
 have B0 : Hid (Below w.heap.size w W0) := by rw [hW0]; exact alloc_rv _ _ _
 have R6 : Hid (W0.heap[w.heap.size]? = some (.cells (rvA 139 q 150) 185 (0, 0))) := by rw [hW0]; exact heap_alloc_new _ _
 rw [← hW0]
 clear hW0
 have Hq := hide (row_keep' Hq.out B0.out)
 have Hg := hide (row_keep' Hg.out B0.out)
 refine wp_loop_rounds 3 ?_
 rw [rounds_succ]
 obtain ⟨E2, HE2⟩ : ∃ E, Hid (E = Value.agg #[.string p1, imI c]) := ⟨_, rfl⟩
 rw [← HE2.out]
 go_wp2_with fail
 refine (unwrap_any p2 (.iface 173 E2) _).mono ?_
 rintro e W2 ⟨rfl, hB⟩
 have R6 := hide (row_keep' R6.out hB)
 have Hq := hide (row_keep' Hq.out hB)
 have Hg := hide (row_keep' Hg.out hB)
 have B2 := kTr B0 hB
 clear hB B0
 rw [HE2.out]
 clear HE2 E2
 go_wp2_with fail
 rw [rounds_succ]
 go_wp2_with fail
 refine (unwrap_any p1 (imI c) _).mono ?_
 rintro e W ⟨rfl, hB⟩
 have R6 := hide (row_keep' R6.out hB)
 have RQ := hide (row_keep' Hq.out hB)
 have RG := hide (row_keep' Hg.out hB)
 have B1 := kTr B2 hB
 have hgs : Hid (g < W.heap.size) := lt_row RG.out
 clear hB B2 Hq Hg nA uA ha1
 unfold imI
 have hel := elem_szI g q W RQ.out
 have hv := valueOf_eI c W
 have hst := set_szI g W.heap.size c 136 (.int .i64 0) (W.alloc (.cells #[.int .i64 c] 136)) (heap_alloc_new _ _) ((heap_alloc_old _ _ (lt_row RG.out)).trans RG.out)
 have HST := hide hst
 go_wp2_with fail
 rw [rounds_succ]
 go_wp2_with (first
  | (refine wpList_load_row (by rfl) 185 (.tmp 6) (by rfl) w.heap.size (by rfl) 185 (rvA 139 q 150) (0, 0) _ R6.out Tryz.underlying185 rfl (rvA_size _ _ _) ?_))
 go_ret
 have hgl : g < w.heap.size := HGW.out
 exact ⟨rfl, below_setRow ((B1.out.mono (Nat.le_of_lt hgl)).alloc (Nat.le_of_lt hgs.out) _) (Nat.le_refl _) _, setRow_heap _ _ _ _ _ _ ((heap_alloc_old _ _ (lt_row RG.out)).trans RG.out)⟩
set_option maxRecDepth 100000 in
set_option maxHeartbeats 1600000 in
theorem as_yes_im2 (p2 p1 : ByteArray) (c : Int) (g : Nat) (w : World) (hE : w.cell? ⟨3, 0, none⟩ = some (rtV 66)) (hg : w.heap[g]? = some (.cells #[.int .i64 0] 136 (0, 0))) :
  Calls Tryz.prog 59 #[atE p2 (atE p1 (imI c)), .iface 139 (.pointer (some ⟨g, 0, none⟩))] w fun e w' => e = .returned (.bool true) ∧ Below g w w' ∧ w'.heap[g]? = some (.cells #[.int .i64 c] 136 (0, 0)) := by
 have h1 := valueOf_szI g
 have h2 := type_szI
 have hz := zeroRV
 have hk1 := kind_pszI
 have hk2 := kind_szI
 have he := elemT_szI
 have hi := impl_szI
 have Hg : Hid _ := hg
 clear hg
 obtain ⟨E, HE⟩ : ∃ E, Hid (E = Value.agg #[.string p2, atE p1 (imI c)]) := ⟨_, rfl⟩
 rw [show atE p2 (atE p1 (imI c)) = .iface 173 E by rw [HE.out]; rfl]
 go_enter Tryz.func59, Tryz.ntmps59
 go_upto_region 6 with (first
  | (refine wpList_store_row (by rfl) 185 (.tmp 5) (.tmp 14) (by rfl) (w.heap.size + 1) (rvA 139 w.heap.size 150) (by rfl) (by rfl) 185 _ (heap_alloc2_new _ _ _) (rvA_size _ _ _) rfl (rvA_all _ _ _) ?_))
 try rw [put_none']
 generalize hW1 : World.setRow _ _ _ = W1
 have hB1 : Hid (Below w.heap.size w W1) := by
  rw [← hW1]; exact below_setRow (((Below.refl _ _).alloc (Nat.le_refl _) _).alloc (by simp) _) (by omega) _
 have R5 : Hid (W1.heap[w.heap.size + 1]? = some (.cells (rvA 139 w.heap.size 150) 185 (0, 0))) := by rw [← hW1]; exact setRow_heap _ _ _ _ _ _ (heap_alloc2_new _ _ _)
 have RP : Hid (W1.heap[w.heap.size]? = some (.cells #[.pointer (some ⟨g, 0, none⟩)] 139 (0, 0))) := by rw [← hW1]; exact (setRow_other _ _ _ _ (by omega)).trans ((heap_alloc_old _ _ (by simp)).trans (heap_alloc_new _ _))
 have h3 := isNil_szI g w.heap.size W1 RP.out
 have hE1 : W1.cell? ⟨3, 0, none⟩ = some (rtV 66) := (hB1.out.cell (World.block_lt_of_cell? w _ hE)).trans hE
 clear hW1 h1
 go_wp2_with (first
  | (refine wpList_load_rowG (by rfl) 185 (.tmp 5) (by rfl) (w.heap.size + 1) (by rfl) 185 (rvA 139 w.heap.size 150) (0, 0) _ R5.out Tryz.underlying185 rfl (rvA_size _ _ _) ?_))
 rw [HE.out]
 refine (asL_yes_im2 p2 p1 c g w.heap.size W1 RP.out ((hB1.out.block _ (lt_row Hg.out)).trans Hg.out)).mono ?_
 rintro e W2 ⟨rfl, hB2, hR⟩
 have BW : Hid (Below g w W2) := (hB1.out.mono (Nat.le_of_lt (lt_row Hg.out))).trans hB2
 have RG := hide hR
 clear hB2 h2 hz hk1 hk2 he hi h3 hR
 go_wp2
 go_ret
 exact ⟨rfl, BW.out, RG.out⟩
end
end Go.Proofs.YtccgfabojbjmjaaGreatDoor
