import Derived.Test.YtccgfabojbjmjaaGreatDoorSd38
import Derived.Test.YtccgfabojbjmjaaGreatDoorSd39
namespace Go.Proofs.YtccgfabojbjmjaaGreatDoor
open Go.RowKit
section
set_option maxRecDepth 100000 in
set_option maxHeartbeats 1600000 in
theorem as_no_sz (E : Value) (g : Nat) (w : World) (hE : w.cell? ⟨3, 0, none⟩ = some (rtV 66))
  (hc : ∀ (q : Nat) (W : World), Calls Tryz.prog 99 #[.iface 173 E, .iface 138 (.pointer (some ⟨g, 0, none⟩)), .agg (rvA 138 q 150), rtV 134] W fun e w' => e = .returned (.bool false) ∧ Below W.heap.size W w') :
  Calls Tryz.prog 59 #[.iface 173 E, .iface 138 (.pointer (some ⟨g, 0, none⟩))] w fun e w' => e = .returned (.bool false) ∧ Below w.heap.size w w' := by
 have h1 := valueOf_sz g
 have h2 := type_sz
 have hz := zeroRV
 have hk1 := kind_psz
 have hk2 := kind_sz
 have he := elemT_sz
 have hi := impl_sz
 have HC := hide hc
 clear hc
 go_enter Tryz.func59, Tryz.ntmps59
 go_upto_region 6 with (first
  | (refine wpList_store_row (by rfl) 185 (.tmp 5) (.tmp 14) (by rfl) (w.heap.size + 1) (rvA 138 w.heap.size 150) (by rfl) (by rfl) 185 _ (heap_alloc2_new _ _ _) (rvA_size _ _ _) rfl (rvA_all _ _ _) ?_))
 try rw [put_none']
 generalize hW1 : World.setRow _ _ _ = W1
 have hB1 : Hid (Below w.heap.size w W1) := by
  rw [← hW1]; exact below_setRow (((Below.refl _ _).alloc (Nat.le_refl _) _).alloc (by simp) _) (by omega) _
 have R5 : Hid (W1.heap[w.heap.size + 1]? = some (.cells (rvA 138 w.heap.size 150) 185 (0, 0))) := by rw [← hW1]; exact setRow_heap _ _ _ _ _ _ (heap_alloc2_new _ _ _)
 have RP : Hid (W1.heap[w.heap.size]? = some (.cells #[.pointer (some ⟨g, 0, none⟩)] 138 (0, 0))) := by rw [← hW1]; exact (setRow_other _ _ _ _ (by omega)).trans ((heap_alloc_old _ _ (by simp)).trans (heap_alloc_new _ _))
 have h3 := isNil_sz g w.heap.size W1 RP.out
 have hE1 : W1.cell? ⟨3, 0, none⟩ = some (rtV 66) := (hB1.out.cell (World.block_lt_of_cell? w _ hE)).trans hE
 clear hW1 h1
 go_wp2_with (first
  | (refine wpList_load_rowG (by rfl) 185 (.tmp 5) (by rfl) (w.heap.size + 1) (by rfl) 185 (rvA 138 w.heap.size 150) (0, 0) _ R5.out Tryz.underlying185 rfl (rvA_size _ _ _) ?_))
 refine (HC.out w.heap.size W1).mono ?_
 rintro e W2 ⟨rfl, hB2⟩
 have BW := kTr hB1 hB2
 clear hB2 h2 hz hk1 hk2 he hi h3 HC
 go_wp2
 go_ret
 exact ⟨rfl, BW.out⟩
set_option maxRecDepth 100000 in
set_option maxHeartbeats 1600000 in
theorem as_no_im (E : Value) (g : Nat) (w : World) (hE : w.cell? ⟨3, 0, none⟩ = some (rtV 66))
  (hc : ∀ (q : Nat) (W : World), Calls Tryz.prog 99 #[.iface 173 E, .iface 139 (.pointer (some ⟨g, 0, none⟩)), .agg (rvA 139 q 150), rtV 136] W fun e w' => e = .returned (.bool false) ∧ Below W.heap.size W w') :
  Calls Tryz.prog 59 #[.iface 173 E, .iface 139 (.pointer (some ⟨g, 0, none⟩))] w fun e w' => e = .returned (.bool false) ∧ Below w.heap.size w w' := by
 have h1 := valueOf_szI g
 have h2 := type_szI
 have hz := zeroRV
 have hk1 := kind_pszI
 have hk2 := kind_szI
 have he := elemT_szI
 have hi := impl_szI
 have HC := hide hc
 clear hc
 go_enter Tryz.func59, Tryz.ntmps59
 go_upto_region 6 with (first
  | (refine wpList_store_row (by rfl) 185 (.tmp 5) (.tmp 14) (by rfl) (w.heap.size + 1) (rvA 139 w.heap.size 150) (by rfl) (by rfl) 185 _ (heap_alloc2_new _ _ _) (rvA_size _ _ _) rfl (rvA_all _ _ _) ?_))
 try rw [put_none']
 generalize hW1 : World.setRow _ _ _ = W1
 have hB1 : Hid (Below w.heap.size w W1) := by
  rw [← hW1]; exact below_setRow (((Below.refl _ _).alloc (Nat.le_refl _) _).alloc (by simp) _) (by omega) _
 have R5 : Hid (W1.heap[w.heap.size + 1]? = some (.cells (rvA 139 w.heap.size 150) 185 (0, 0))) := by rw [← hW1]; exact setRow_heap _ _ _ _ _ _ (heap_alloc2_new _ _ _)
 have RP : Hid (W1.heap[w.heap.size]? = some (.cells #[.pointer (some ⟨g, 0, none⟩)] 139 (0, 0))) := by rw [← hW1]; exact (setRow_other _ _ _ _ (by omega)).trans ((heap_alloc_old _ _ (by simp)).trans (heap_alloc_new _ _))
 have h3 := isNil_szI g w.heap.size W1 RP.out
 have hE1 : W1.cell? ⟨3, 0, none⟩ = some (rtV 66) := (hB1.out.cell (World.block_lt_of_cell? w _ hE)).trans hE
 clear hW1 h1
 go_wp2_with (first
  | (refine wpList_load_rowG (by rfl) 185 (.tmp 5) (by rfl) (w.heap.size + 1) (by rfl) 185 (rvA 139 w.heap.size 150) (0, 0) _ R5.out Tryz.underlying185 rfl (rvA_size _ _ _) ?_))
 refine (HC.out w.heap.size W1).mono ?_
 rintro e W2 ⟨rfl, hB2⟩
 have BW := kTr hB1 hB2
 clear hB2 h2 hz hk1 hk2 he hi h3 HC
 go_wp2
 go_ret
 exact ⟨rfl, BW.out⟩
end
end Go.Proofs.YtccgfabojbjmjaaGreatDoor
