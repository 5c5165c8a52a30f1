import Derived.Test.YtccgfabojbjmjaaGreatDoorSd22
import Derived.Test.YtccgfabojbjmjaaGreatDoorSd20
namespace Go.Proofs.YtccgfabojbjmjaaGreatDoor
open Go.RowKit
theorem leB_zero : leB 0 32 = List.replicate 32 0 := by decide +kernel
def codeN (y : Nat) (odd : Bool) : Nat := if odd then y + 57896044618658097711785492504343953926634992332820282019728792003956564819968 else y
def ksB (s : ByteArray) : List UInt8 := if s.size = 32 then bytesOf s else List.replicate 32 0
def ksO (s : ByteArray) : Bool := decide (s.size = 32)
theorem ksB_length (s : ByteArray) : (ksB s).length = 32 := by
 unfold ksB; split
 · rename_i h; rw [bytesOf_length, h]
 · simp
theorem array32 (b cap : Nat) (w : World) : (Instr.arrayAt 61 (.slice (some ⟨b, 0, none⟩) 32 cap)).run Tryz.prog w = .ok (.pointer (some ⟨b, 0, none⟩)) w := by
 simp [Instr.arrayAt, run_underlying under32]
theorem z32_all : z32.all (·.oneCell') = true := all_oneCell_toArray (bytes_cell _)
set_option maxRecDepth 100000 in
set_option maxHeartbeats 400000 in
theorem keySized_any (s : ByteArray) (w : World) :
  Calls Tryz.prog 117 #[.string s] w fun e w' => e = .returned (.tuple #[.agg ((ksB s).map cv).toArray, .bool (ksO s)]) ∧ Below w.heap.size w w' := by
 have hz := zero32
 by_cases h32 : s.size = 32
 ·
  have hbne : ((s.size : Int) != 32) = false := by rw [h32]; rfl
  have HE : Hid (ksB s = bytesOf s ∧ ksO s = true) := ⟨by unfold ksB; rw [if_pos h32], by unfold ksO; exact decide_eq_true h32⟩
  obtain ⟨cap, W1, hcv, hR, hB, hS⟩ := conv_bytes 9 89 5 underStr underSl8 underU8 s (w.alloc (.cells z32 61))
  simp only [World.size_alloc] at hcv hR hB hS
  have HR := hide hR
  have HB := hide hB
  have HZ : Hid (W1.heap[w.heap.size]? = some (.cells z32 61 (0, 0))) := (hB.block _ (by omega)).trans (heap_alloc_new _ _)
  have HBw : Hid (Below w.heap.size w W1) := ((Below.refl _ w).alloc (Nat.le_refl _) _).trans (hB.mono (by omega))
  have hlen : ((bytesOf s).map cv).length = 32 := by rw [List.length_map, bytesOf_length, h32]
  obtain ⟨M, HM⟩ : ∃ M, Hid (M = (bytesOf s).map cv) := ⟨_, rfl⟩
  have HSz : Hid ((Tryz.prog.info? 61).map (·.size) = some M.length) := by rw [HM.out, hlen]; exact size32
  have HSz2 : Hid ((Tryz.prog.info? 61).map (·.size) = some M.toArray.size) := by show _ = _; rw [size32]; simp [HM.out, bytesOf_length, h32]
  have HOo : Hid (z32.size = M.toArray.size) := by show _ = _; simp [HM.out, bytesOf_length, h32]; rfl
  have HA : Hid (M.toArray.all (·.oneCell') = true) := by rw [HM.out]; exact all_oneCell_toArray (bytes_cell _)
  rw [h32] at hcv
  rw [← HM.out] at HR
  have harr := array32 (w.heap.size + 1) cap W1
  clear hR hB hlen h32
  go_enter Tryz.func117, Tryz.ntmps117
  go_wp2_with (first
   | (refine wpList_load_mid (by rfl) 61 (.tmp 10) (by rfl) (w.heap.size + 1) 0 (by rfl) M _ HR.out under32 rfl HSz.out ?_)
   | (refine wpList_store_row (by rfl) 61 (.tmp 2) (.tmp 11) (by rfl) w.heap.size M.toArray (by rfl) (by rfl) 61 _ HZ.out HSz2.out HOo.out HA.out ?_))
  refine bodyPost_ret (v := .tuple #[.agg M.toArray, .bool true]) (results_cell_tmp_row Tryz.results117 _ _ w.heap.size 61 M.toArray (0, 0) _ (by rfl) (setRow_heap _ _ _ _ _ _ HZ.out) under32 rfl HSz2.out) rfl ⟨by rw [HE.out.1, HE.out.2, HM.out], below_setRow HBw.out (Nat.le_refl _) _⟩
 ·
  have hbne : ((s.size : Int) != 32) = true := by rw [bne_iff_ne]; omega
  have HE : Hid (ksB s = List.replicate 32 0 ∧ ksO s = false) := ⟨by unfold ksB; rw [if_neg h32], by unfold ksO; exact decide_eq_false h32⟩
  clear h32
  go_enter Tryz.func117, Tryz.ntmps117
  go_wp2_with (first
   | (refine wpList_store_row (by rfl) 61 (.tmp 2) (.tmp 7) (by rfl) w.heap.size z32 (by rfl) (by rfl) 61 _ (heap_alloc_new _ _) size32 rfl z32_all ?_))
  refine bodyPost_ret (v := .tuple #[.agg z32, .bool false]) (results_cell_tmp_row Tryz.results117 _ _ w.heap.size 61 z32 (0, 0) _ (by rfl) (setRow_heap _ _ _ _ _ _ (heap_alloc_new _ _)) under32 rfl size32) rfl ⟨by rw [HE.out.1, HE.out.2]; rfl, below_setRow (by go_grown) (Nat.le_refl _) _⟩
end Go.Proofs.YtccgfabojbjmjaaGreatDoor
