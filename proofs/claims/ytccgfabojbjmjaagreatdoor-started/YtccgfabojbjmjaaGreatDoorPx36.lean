import Derived.Test.YtccgfabojbjmjaaGreatDoorPx35
import Derived.Test.YtccgfabojbjmjaaGreatDoorPx34
namespace Go.Proofs.YtccgfabojbjmjaaGreatDoor
open Go.RowKit
abbrev oTimesP4 : Oper := ⟨some 9, .alloc 61, 0, "scalar.go:49", #[], none⟩
abbrev oTimesP5 : Oper := ⟨some 10, .alloc 61, 0, "scalar.go:49", #[], none⟩
abbrev oTimesP6 : Oper := ⟨none, .store 61 (.tmp 9) (.tmp 20), 0, "scalar.go:49", #[zeD 4, zeD 1, zeC 3, zeP 0, zeP 1, ⟨2, .textOnly .lateStores⟩, zeP 3, zeP 4, zeP 5], none⟩
abbrev oTimesP7 : Oper := ⟨none, .store 61 (.tmp 10) (.tmp 22), 0, "scalar.go:49", #[zeD 5, zeD 3, zeC 6, zeP 0, zeP 1, zeP 2, zeP 3, zeP 4, zeP 5, zeP 6], none⟩
theorem hrunBytes {a : Act} {o : Oper} (x : Operand) (ho : o.op = .call { callee := .value (.func 46), args := #[x], argTypes := #[60] }) (v1 : Value) (hx : a.eval x = v1) (w : World) :
  (execOp a.eval o).run Tryz.prog w = .ok (.enter 46 #[v1]) w := by
 unfold execOp
 simp only [ho]
 subst hx
 go_simp
theorem hrunAlloc32 {a : Act} {o : Oper} (ho : o.op = .alloc 61) (w : World) :
  (execOp a.eval o).run Tryz.prog w = .ok (.value (.pointer (some ⟨w.heap.size, 0, none⟩))) (w.alloc (.cells (bA 0) 61)) := by
 have hz := zero32A
 unfold execOp
 simp only [ho]
 go_simp
theorem bytesN (n : Nat) (w : World) : Calls Tryz.prog 46 #[.agg (num4A n)] w fun e w' => e = .returned (.agg (bA n)) ∧ Below w.heap.size w w' := bytes_wd n w
theorem valLE_two (X Y : Nat) (hX : X < 115792089237316195423570985008687907853269984665640564039457584007913129639936) (hY : Y < 115792089237316195423570985008687907853269984665640564039457584007913129639936) :
  valLE (leB X 32 ++ leB Y 32) = X + 115792089237316195423570985008687907853269984665640564039457584007913129639936 * Y := by
 have app : ∀ a b : List UInt8, valLE (a ++ b) = valLE a + 256 ^ a.length * valLE b := by
  intro a b
  induction a with
  | nil => simp [valLE]
  | cons c l ih => rw [List.cons_append, valLE, valLE, ih, List.length_cons, Nat.pow_succ, Nat.mul_add, Nat.add_assoc, ← Nat.mul_assoc, Nat.mul_comm 256 (256 ^ l.length)]
 rw [app, valLE_leB X hX, valLE_leB Y hY, leB_length]
theorem at4W_3 (w : World) (A B C D : Obj) : ((((w.alloc A).alloc B).alloc C).alloc D).heap[w.heap.size + 3]? = some D := by
 have e := heap_alloc_new (((w.alloc A).alloc B).alloc C) D
 simpa using e
theorem z64_def : z64 = ((List.replicate 64 (0 : UInt8)).map cv).toArray := rfl
theorem zero64T (w : World) : (zeroValue 102).run Tryz.prog w = .ok (.agg z64) w := by kernel_rfl
theorem sp1 (l : List UInt8) (hl : l.length = 32) : splice (List.replicate 64 (0 : UInt8)) 0 l = l ++ List.replicate 32 0 := by
 unfold splice; rw [hl]; rfl
theorem sp2 (l m : List UInt8) (hl : l.length = 32) (hm : m.length = 32) : splice (l ++ List.replicate 32 0) 32 m = l ++ m := by
 unfold splice
 rw [List.take_left' hl, hm, List.drop_append, hl, List.drop_eq_nil_of_le (by omega)]
 simp
section
attribute [local irreducible] num4A nL bA z64
set_option maxRecDepth 100000 in
set_option maxHeartbeats 4000000 in
theorem timesPlusA (a b c : Nat) (ha : a < 115792089237316195423570985008687907853269984665640564039457584007913129639936) (hb : b < 115792089237316195423570985008687907853269984665640564039457584007913129639936) (hc : c < 115792089237316195423570985008687907853269984665640564039457584007913129639936) (w : World) (hO : OrdAt w) :
  Calls Tryz.prog 72 #[.agg (num4A a), .agg (num4A b), .agg (num4A c)] w fun e w' => e = .returned (.agg (num4A ((a * b + c) % Lord))) ∧ Below w.heap.size w w' := by
 have hz := zero4W
 have hz64 := zero64T
 have hz32 := zero32A
 have HA := hide ha
 have HBb := hide hb
 have HC := hide hc
 have HO := hide hO
 clear ha hb hc hO
 go_enter Tryz.func72, Tryz.ntmps72
 go_upto_region 1 with fail
 generalize hW0 : World.alloc _ _ = W0
 have R3 : Hid (W0.heap[w.heap.size]? = some (.cells (num4A a) 60 (0, 0))) := by rw [← hW0]; exact (heap_alloc_old _ _ (by simp only [World.size_alloc]; omega)).trans (heap3_0 _ _ _ _)
 have R4 : Hid (W0.heap[w.heap.size + 1]? = some (.cells (num4A b) 60 (0, 0))) := by rw [← hW0]; exact (heap_alloc_old _ _ (by simp only [World.size_alloc]; omega)).trans (heap3_1 _ _ _ _)
 have R5 : Hid (W0.heap[w.heap.size + 2]? = some (.cells (num4A c) 60 (0, 0))) := by rw [← hW0]; exact (heap_alloc_old _ _ (by simp only [World.size_alloc]; omega)).trans (heap3_2 _ _ _ _)
 have R6 : Hid (W0.heap[w.heap.size + 3]? = some (.cells (num4A 0) 60 (0, 0))) := by rw [← hW0]; exact at4W_3 _ _ _ _ _
 have BL : Hid (Below w.heap.size w W0) := by rw [← hW0]; show Below _ _ _; go_grown
 clear hW0
 go_wp2_with (first
  | (refine wpList_load_row (by rfl) 60 (.tmp 3) (by rfl) w.heap.size (by rfl) 60 (num4A a) (0, 0) _ R3.out under4 rfl (size4W _) ?_)
  | (refine wpList_load_row (by rfl) 60 (.tmp 4) (by rfl) (w.heap.size + 1) (by rfl) 60 (num4A b) (0, 0) _ R4.out under4 rfl (size4W _) ?_)
  | (refine wpList_load_row (by rfl) 60 (.tmp 5) (by rfl) (w.heap.size + 2) (by rfl) 60 (num4A c) (0, 0) _ R5.out under4 rfl (size4W _) ?_))
 refine (wideA a b c HA.out HBb.out HC.out _).mono ?_
 rintro e W1 ⟨rfl, hB⟩
 have R6 := hide (row_keep' R6.out hB)
 have BL := kTr BL hB
 clear hB R3 R4 R5
 obtain ⟨X, EX⟩ : ∃ X, Hid (X = (a * b + c) % 115792089237316195423570985008687907853269984665640564039457584007913129639936) := ⟨_, hide rfl⟩
 obtain ⟨Y, EY⟩ : ∃ Y, Hid (Y = (a * b + c) / 115792089237316195423570985008687907853269984665640564039457584007913129639936) := ⟨_, hide rfl⟩
 have HX : Hid (X < 115792089237316195423570985008687907853269984665640564039457584007913129639936) := by rw [EX.out]; exact Nat.mod_lt _ (by decide)
 have HY : Hid (Y < 115792089237316195423570985008687907853269984665640564039457584007913129639936) := by
  rw [EY.out]
  refine Nat.div_lt_of_lt_mul ?_
  have h1 := HA.out; have h2 := HBb.out; have h3 := HC.out
  have : a * b ≤ 115792089237316195423570985008687907853269984665640564039457584007913129639935 * 115792089237316195423570985008687907853269984665640564039457584007913129639935 := Nat.mul_le_mul (by omega) (by omega)
  omega
 rw [← EX.out, ← EY.out]
 go_upto_region 2 with (first
  | (refine wpList_store_row (by rfl) 60 (.tmp 7) (.tmp 17) (by rfl) W1.heap.size (num4A X) (by rfl) (by rfl) 60 _ (heap_alloc2_old _ _ _) (size4W _) (n4W _ _) (num4A_all _) ?_)
  | (refine wpList_store_row (by rfl) 60 (.tmp 8) (.tmp 18) (by rfl) (W1.heap.size + 1) (num4A Y) (by rfl) (by rfl) 60 _ ((setRow_other _ _ _ _ (by omega)).trans (heap_alloc2_new _ _ _)) (size4W _) (n4W _ _) (num4A_all _) ?_))
 try rw [put_none']
 try rw [put_none']
 obtain ⟨g7, hg7⟩ : ∃ s, s = W1.heap.size := ⟨_, rfl⟩
 obtain ⟨g8, hg8⟩ : ∃ s, s = W1.heap.size + 1 := ⟨_, rfl⟩
 generalize hW2 : World.setRow _ _ _ = W2
 have R7 : Hid (W2.heap[g7]? = some (.cells (num4A X) 60 (0, 0))) := by rw [← hW2, hg7]; exact (setRow_other _ _ _ _ (by omega)).trans (setRow_heap _ _ _ _ _ _ (heap_alloc2_old _ _ _))
 have R8 : Hid (W2.heap[g8]? = some (.cells (num4A Y) 60 (0, 0))) := by rw [← hW2, hg8]; exact setRow_heap _ _ _ _ _ _ ((setRow_other _ _ _ _ (by omega)).trans (heap_alloc2_new _ _ _))
 have K2 : Hid (Below W1.heap.size W1 W2) := by rw [← hW2]; exact below_setRow (below_setRow (((Below.refl _ _).alloc (Nat.le_refl _) _).alloc (by simp) _) (by omega) _) (by omega) _
 have R6 := hide (row_keep' R6.out K2.out)
 have BL2 : Hid (Below w.heap.size w W2) := BL.out.trans (K2.out.mono BL.out.size)
 rw [← hg8, ← hg7]
 clear hW2 hg7 hg8 BL K2
 have R7r := hide (rangeN R7.out)
 have R8r := hide (rangeN R8.out)
 have l7 := lt_row R7.out
 have l8 := lt_row R8.out
 go_upto_region 2 with fail
 go_cut [9, 10] from 19 to 22 (fun s9 s10 wx => ∃ b9 b10, s9 = .pointer (some ⟨b9, 0, none⟩) ∧ s10 = .pointer (some ⟨b10, 0, none⟩) ∧ Hid (wx.heap[b9]? = some (.cells (bA X) 61 (0, 0))) ∧ Hid (wx.heap[b10]? = some (.cells (bA Y) 61 (0, 0))) ∧ Hid (b9 ≠ b10) ∧ Hid (W2.heap.size ≤ b9) ∧ Hid (Below W2.heap.size W2 wx))
 case first =>
  refine wp_region_held_drew (S := fun w' => w'.rangeAt g7 0 (nL X) ∧ w'.rangeAt g8 0 (nL Y)) (by kernel_rfl) ⟨R7r.out, R8r.out⟩ (fun hHeld => ?_)
  have KV1 : Hid (Below W2.heap.size W2 W2.drew) := (Below.refl _ _).drew
  obtain ⟨V1, hV1⟩ : ∃ V, V = W2.drew := ⟨_, rfl⟩
  rw [← hV1] at hHeld KV1 ⊢
  clear hV1
  refine wpAnyH_take (i := 0) (oi := ⟨some 19, .load 60 (.tmp 7), 60, "scalar.go:49", #[], none⟩) (v := .agg (num4A X)) rfl (by kernel_rfl) (by kernel_rfl) (by kernel_rfl) (fun _ _ _ h => h) (yldU (by rfl) _ rfl g7 0 X rfl (fun w h => h.1)) hHeld ?_
  simp only [zaP, zsT, zsZ, zsS]
  refine wpAnyH_take (i := 2) (oi := ⟨some 21, .load 60 (.tmp 8), 60, "scalar.go:49", #[], none⟩) (v := .agg (num4A Y)) rfl (by kernel_rfl) (by kernel_rfl) (by kernel_rfl) (fun _ _ _ h => h) (yldU (by rfl) _ rfl g8 0 Y rfl (fun w h => h.2)) hHeld ?_
  simp only [zaP, zsT, zsZ, zsS]
  refine wpAnyH_ready (rs := [1, 4, 5]) (by kernel_rfl) (by simp) ?_
  refine AllReadyH.cons (o := ⟨some 20, .call ⟨.value (.func 46), #[.tmp 19], #[60]⟩, 61, "scalar.go:49", #[zeD 0], none⟩) rfl (fun K hK => ?_) ?_
  ·
   refine step_callTo (by rfl) _ _ (hrunBytes _ rfl (.agg (num4A X)) rfl V1) _ _ (bytesN X V1) (fun V2 HBx => ?_)
   have KV2 := kTr KV1 HBx
   clear HBx
   refine hK.out _ _ ?_ (fun hHeld => ?_)
   · exact ⟨range_below R7r.out KV2.out l7, range_below R8r.out KV2.out l8⟩
   clear hK K
   try simp only [zaP, zsT, zsZ, zsS]
   refine wpAnyH_ready (rs := [3, 4, 5]) (by kernel_rfl) (by simp) ?_
   refine AllReadyH.cons (o := ⟨some 22, .call ⟨.value (.func 46), #[.tmp 21], #[60]⟩, 61, "scalar.go:49", #[zeD 2, zeC 1], none⟩) rfl (fun K hK => ?_) ?_
   ·
    refine step_callTo (by rfl) _ _ (hrunBytes _ rfl (.agg (num4A Y)) rfl V2) _ _ (bytesN Y V2) (fun V3 HBx => ?_)
    have KV3 := kTr KV2 HBx
    clear HBx
    refine hK.out _ _ ?_ (fun hHeld => ?_)
    · exact ⟨range_below R7r.out KV3.out l7, range_below R8r.out KV3.out l8⟩
    clear hK K
    try simp only [zaP, zsT, zsZ, zsS]
    refine wpAnyH_ready (rs := [4, 5]) (by kernel_rfl) (by simp) ?_
    refine AllReadyH.cons (o := oTimesP4) rfl (fun K hK => ?_) ?_
    ·
     refine step_runTo (w' := V3.alloc (.cells (bA 0) 61)) (by rfl) (.pointer (some ⟨V3.heap.size, 0, none⟩)) (hrunAlloc32 rfl V3) ?_
     obtain ⟨b9, hb9⟩ : ∃ g, g = V3.heap.size := ⟨_, rfl⟩
     have Z9 : Hid ((V3.alloc (.cells (bA 0) 61)).heap[b9]? = some (.cells (bA 0) 61 (0, 0))) := by rw [hb9]; exact heap_alloc_new _ _
     have KV4 := kAl KV3 (.cells (bA 0) 61)
     have GG9 : Hid (W2.heap.size ≤ b9) := by rw [hb9]; exact KV3.out.size
     rw [← hb9]
     obtain ⟨V4, hV4⟩ : ∃ V, V = V3.alloc (.cells (bA 0) 61) := ⟨_, rfl⟩
     rw [← hV4] at Z9 KV4 ⊢
     clear hV4 hb9
     refine hK.out _ _ ?_ (fun hHeld => ?_)
     · exact ⟨range_below R7r.out KV4.out l7, range_below R8r.out KV4.out l8⟩
     clear hK K
     try simp only [zaP, zsT, zsZ, zsS]
     refine wpAnyH_ready (rs := [5]) (by kernel_rfl) (by simp) ?_
     refine AllReadyH.cons (o := oTimesP5) rfl (fun K hK => ?_) ?_
     ·
      refine step_runTo (w' := V4.alloc (.cells (bA 0) 61)) (by rfl) (.pointer (some ⟨V4.heap.size, 0, none⟩)) (hrunAlloc32 rfl V4) ?_
      obtain ⟨b10, hb10⟩ : ∃ g, g = V4.heap.size := ⟨_, rfl⟩
      have Z10 : Hid ((V4.alloc (.cells (bA 0) 61)).heap[b10]? = some (.cells (bA 0) 61 (0, 0))) := by rw [hb10]; exact heap_alloc_new _ _
      have D10_9 : Hid (b10 ≠ b9) := by have := lt_row Z9.out; rw [hb10]; show _ ≠ _; omega
      have D9_10 : Hid (b9 ≠ b10) := fun e => D10_9.out e.symm
      have Z9 : Hid ((V4.alloc (.cells (bA 0) 61)).heap[b9]? = some (.cells (bA 0) 61 (0, 0))) := (heap_alloc_old _ _ (lt_row Z9.out)).trans Z9.out
      have KV5 := kAl KV4 (.cells (bA 0) 61)
      have GG10 : Hid (W2.heap.size ≤ b10) := by rw [hb10]; exact KV4.out.size
      rw [← hb10]
      obtain ⟨V5, hV5⟩ : ∃ V, V = V4.alloc (.cells (bA 0) 61) := ⟨_, rfl⟩
      rw [← hV5] at Z9 Z10 KV5 ⊢
      clear hV5 hb10
      refine hK.out _ _ ?_ (fun hHeld => ?_)
      · exact ⟨range_below R7r.out KV5.out l7, range_below R8r.out KV5.out l8⟩
      clear hK K
      try simp only [zaP, zsT, zsZ, zsS]
      refine wpAnyH_ready (rs := [6]) (by kernel_rfl) (by simp) ?_
      refine AllReadyH.cons (o := oTimesP6) rfl (fun K hK => ?_) ?_
      ·
       refine step_store_row _ (by rfl) 61 (.tmp 9) (.tmp 20) (by rfl) (b9) (bA X) (by rfl) (by rfl) 61 _ Z9.out (bA_size' _) (bA_old _ _) (bA_all _) ?_
       rw [put_none']
       obtain ⟨V6, hV6⟩ : ∃ V, V = World.setRow V5 b9 (bA X) := ⟨_, rfl⟩
       have Z9 : Hid (V6.heap[b9]? = some (.cells (bA X) 61 (0, 0))) := by rw [hV6]; exact setRow_heap _ _ _ _ _ _ Z9.out
       have Z10 : Hid (V6.heap[b10]? = some (.cells (bA 0) 61 (0, 0))) := by rw [hV6]; exact (setRow_other _ _ _ _ D10_9.out).trans Z10.out
       have KV6 : Hid (Below W2.heap.size W2 V6) := by rw [hV6]; exact below_setRow KV5.out GG9.out _
       rw [← hV6]
       clear hV6
       refine hK.out _ _ ?_ (fun hHeld => ?_)
       · exact ⟨range_below R7r.out KV6.out l7, range_below R8r.out KV6.out l8⟩
       clear hK K
       try simp only [zaP, zsT, zsZ, zsS]
       refine wpAnyH_ready (rs := [7]) (by kernel_rfl) (by simp) ?_
       refine AllReadyH.cons (o := oTimesP7) rfl (fun K hK => ?_) ?_
       ·
        refine step_store_row _ (by rfl) 61 (.tmp 10) (.tmp 22) (by rfl) (b10) (bA Y) (by rfl) (by rfl) 61 _ Z10.out (bA_size' _) (bA_old _ _) (bA_all _) ?_
        rw [put_none']
        obtain ⟨V7, hV7⟩ : ∃ V, V = World.setRow V6 b10 (bA Y) := ⟨_, rfl⟩
        have Z10 : Hid (V7.heap[b10]? = some (.cells (bA Y) 61 (0, 0))) := by rw [hV7]; exact setRow_heap _ _ _ _ _ _ Z10.out
        have Z9 : Hid (V7.heap[b9]? = some (.cells (bA X) 61 (0, 0))) := by rw [hV7]; exact (setRow_other _ _ _ _ D9_10.out).trans Z9.out
        have KV7 : Hid (Below W2.heap.size W2 V7) := by rw [hV7]; exact below_setRow KV6.out GG10.out _
        rw [← hV7]
        clear hV7
        refine hK.out _ _ ?_ (fun hHeld => ?_)
        · exact ⟨range_below R7r.out KV7.out l7, range_below R8r.out KV7.out l8⟩
        clear hK K
        try simp only [zaP, zsT, zsZ, zsS]
        refine wpAnyH_done (by kernel_rfl) ?_ _
        go_wp2_with fail
        go_meet
        case rel => exact ⟨b9, b10, rfl, rfl, Z9, Z10, D9_10, GG9, KV7⟩
       exact AllReadyH.nil
      exact AllReadyH.nil
     exact AllReadyH.nil
    refine AllReadyH.cons (o := oTimesP5) rfl (fun K hK => ?_) ?_
    ·
     refine step_runTo (w' := V3.alloc (.cells (bA 0) 61)) (by rfl) (.pointer (some ⟨V3.heap.size, 0, none⟩)) (hrunAlloc32 rfl V3) ?_
     obtain ⟨b10, hb10⟩ : ∃ g, g = V3.heap.size := ⟨_, rfl⟩
     have Z10 : Hid ((V3.alloc (.cells (bA 0) 61)).heap[b10]? = some (.cells (bA 0) 61 (0, 0))) := by rw [hb10]; exact heap_alloc_new _ _
     have KV8 := kAl KV3 (.cells (bA 0) 61)
     have GG10 : Hid (W2.heap.size ≤ b10) := by rw [hb10]; exact KV3.out.size
     rw [← hb10]
     obtain ⟨V8, hV8⟩ : ∃ V, V = V3.alloc (.cells (bA 0) 61) := ⟨_, rfl⟩
     rw [← hV8] at Z10 KV8 ⊢
     clear hV8 hb10
     refine hK.out _ _ ?_ (fun hHeld => ?_)
     · exact ⟨range_below R7r.out KV8.out l7, range_below R8r.out KV8.out l8⟩
     clear hK K
     try simp only [zaP, zsT, zsZ, zsS]
     refine wpAnyH_ready (rs := [4]) (by kernel_rfl) (by simp) ?_
     refine AllReadyH.cons (o := oTimesP4) rfl (fun K hK => ?_) ?_
     ·
      refine step_runTo (w' := V8.alloc (.cells (bA 0) 61)) (by rfl) (.pointer (some ⟨V8.heap.size, 0, none⟩)) (hrunAlloc32 rfl V8) ?_
      obtain ⟨b9, hb9⟩ : ∃ g, g = V8.heap.size := ⟨_, rfl⟩
      have Z9 : Hid ((V8.alloc (.cells (bA 0) 61)).heap[b9]? = some (.cells (bA 0) 61 (0, 0))) := by rw [hb9]; exact heap_alloc_new _ _
      have D9_10 : Hid (b9 ≠ b10) := by have := lt_row Z10.out; rw [hb9]; show _ ≠ _; omega
      have D10_9 : Hid (b10 ≠ b9) := fun e => D9_10.out e.symm
      have Z10 : Hid ((V8.alloc (.cells (bA 0) 61)).heap[b10]? = some (.cells (bA 0) 61 (0, 0))) := (heap_alloc_old _ _ (lt_row Z10.out)).trans Z10.out
      have KV9 := kAl KV8 (.cells (bA 0) 61)
      have GG9 : Hid (W2.heap.size ≤ b9) := by rw [hb9]; exact KV8.out.size
      rw [← hb9]
      obtain ⟨V9, hV9⟩ : ∃ V, V = V8.alloc (.cells (bA 0) 61) := ⟨_, rfl⟩
      rw [← hV9] at Z10 Z9 KV9 ⊢
      clear hV9 hb9
      refine hK.out _ _ ?_ (fun hHeld => ?_)
      · exact ⟨range_below R7r.out KV9.out l7, range_below R8r.out KV9.out l8⟩
      clear hK K
      try simp only [zaP, zsT, zsZ, zsS]
      refine wpAnyH_ready (rs := [6]) (by kernel_rfl) (by simp) ?_
      refine AllReadyH.cons (o := oTimesP6) rfl (fun K hK => ?_) ?_
      ·
       refine step_store_row _ (by rfl) 61 (.tmp 9) (.tmp 20) (by rfl) (b9) (bA X) (by rfl) (by rfl) 61 _ Z9.out (bA_size' _) (bA_old _ _) (bA_all _) ?_
       rw [put_none']
       obtain ⟨V10, hV10⟩ : ∃ V, V = World.setRow V9 b9 (bA X) := ⟨_, rfl⟩
       have Z9 : Hid (V10.heap[b9]? = some (.cells (bA X) 61 (0, 0))) := by rw [hV10]; exact setRow_heap _ _ _ _ _ _ Z9.out
       have Z10 : Hid (V10.heap[b10]? = some (.cells (bA 0) 61 (0, 0))) := by rw [hV10]; exact (setRow_other _ _ _ _ D10_9.out).trans Z10.out
       have KV10 : Hid (Below W2.heap.size W2 V10) := by rw [hV10]; exact below_setRow KV9.out GG9.out _
       rw [← hV10]
       clear hV10
       refine hK.out _ _ ?_ (fun hHeld => ?_)
       · exact ⟨range_below R7r.out KV10.out l7, range_below R8r.out KV10.out l8⟩
       clear hK K
       try simp only [zaP, zsT, zsZ, zsS]
       refine wpAnyH_ready (rs := [7]) (by kernel_rfl) (by simp) ?_
       refine AllReadyH.cons (o := oTimesP7) rfl (fun K hK => ?_) ?_
       ·
        refine step_store_row _ (by rfl) 61 (.tmp 10) (.tmp 22) (by rfl) (b10) (bA Y) (by rfl) (by rfl) 61 _ Z10.out (bA_size' _) (bA_old _ _) (bA_all _) ?_
        rw [put_none']
        obtain ⟨V11, hV11⟩ : ∃ V, V = World.setRow V10 b10 (bA Y) := ⟨_, rfl⟩
        have Z10 : Hid (V11.heap[b10]? = some (.cells (bA Y) 61 (0, 0))) := by rw [hV11]; exact setRow_heap _ _ _ _ _ _ Z10.out
        have Z9 : Hid (V11.heap[b9]? = some (.cells (bA X) 61 (0, 0))) := by rw [hV11]; exact (setRow_other _ _ _ _ D9_10.out).trans Z9.out
        have KV11 : Hid (Below W2.heap.size W2 V11) := by rw [hV11]; exact below_setRow KV10.out GG10.out _
        rw [← hV11]
        clear hV11
        refine hK.out _ _ ?_ (fun hHeld => ?_)
        · exact ⟨range_below R7r.out KV11.out l7, range_below R8r.out KV11.out l8⟩
        clear hK K
        try simp only [zaP, zsT, zsZ, zsS]
        refine wpAnyH_done (by kernel_rfl) ?_ _
        go_wp2_with fail
        go_meet
        case rel => exact ⟨b9, b10, rfl, rfl, Z9, Z10, D9_10, GG9, KV11⟩
       exact AllReadyH.nil
      exact AllReadyH.nil
     exact AllReadyH.nil
    exact AllReadyH.nil
   refine AllReadyH.cons (o := oTimesP4) rfl (fun K hK => ?_) ?_
   ·
    refine step_runTo (w' := V2.alloc (.cells (bA 0) 61)) (by rfl) (.pointer (some ⟨V2.heap.size, 0, none⟩)) (hrunAlloc32 rfl V2) ?_
    obtain ⟨b9, hb9⟩ : ∃ g, g = V2.heap.size := ⟨_, rfl⟩
    have Z9 : Hid ((V2.alloc (.cells (bA 0) 61)).heap[b9]? = some (.cells (bA 0) 61 (0, 0))) := by rw [hb9]; exact heap_alloc_new _ _
    have KV12 := kAl KV2 (.cells (bA 0) 61)
    have GG9 : Hid (W2.heap.size ≤ b9) := by rw [hb9]; exact KV2.out.size
    rw [← hb9]
    obtain ⟨V12, hV12⟩ : ∃ V, V = V2.alloc (.cells (bA 0) 61) := ⟨_, rfl⟩
    rw [← hV12] at Z9 KV12 ⊢
    clear hV12 hb9
    refine hK.out _ _ ?_ (fun hHeld => ?_)
    · exact ⟨range_below R7r.out KV12.out l7, range_below R8r.out KV12.out l8⟩
    clear hK K
    try simp only [zaP, zsT, zsZ, zsS]
    refine wpAnyH_ready (rs := [3, 5]) (by kernel_rfl) (by simp) ?_
    refine AllReadyH.cons (o := ⟨some 22, .call ⟨.value (.func 46), #[.tmp 21], #[60]⟩, 61, "scalar.go:49", #[zeD 2, zeC 1], none⟩) rfl (fun K hK => ?_) ?_
    ·
     refine step_callTo (by rfl) _ _ (hrunBytes _ rfl (.agg (num4A Y)) rfl V12) _ _ (bytesN Y V12) (fun V13 HBx => ?_)
     have KV13 := kTr KV12 HBx
     have Z9 := hide (row_keep' Z9.out HBx)
     clear HBx
     refine hK.out _ _ ?_ (fun hHeld => ?_)
     · exact ⟨range_below R7r.out KV13.out l7, range_below R8r.out KV13.out l8⟩
     clear hK K
     try simp only [zaP, zsT, zsZ, zsS]
     refine wpAnyH_ready (rs := [5]) (by kernel_rfl) (by simp) ?_
     refine AllReadyH.cons (o := oTimesP5) rfl (fun K hK => ?_) ?_
     ·
      refine step_runTo (w' := V13.alloc (.cells (bA 0) 61)) (by rfl) (.pointer (some ⟨V13.heap.size, 0, none⟩)) (hrunAlloc32 rfl V13) ?_
      obtain ⟨b10, hb10⟩ : ∃ g, g = V13.heap.size := ⟨_, rfl⟩
      have Z10 : Hid ((V13.alloc (.cells (bA 0) 61)).heap[b10]? = some (.cells (bA 0) 61 (0, 0))) := by rw [hb10]; exact heap_alloc_new _ _
      have D10_9 : Hid (b10 ≠ b9) := by have := lt_row Z9.out; rw [hb10]; show _ ≠ _; omega
      have D9_10 : Hid (b9 ≠ b10) := fun e => D10_9.out e.symm
      have Z9 : Hid ((V13.alloc (.cells (bA 0) 61)).heap[b9]? = some (.cells (bA 0) 61 (0, 0))) := (heap_alloc_old _ _ (lt_row Z9.out)).trans Z9.out
      have KV14 := kAl KV13 (.cells (bA 0) 61)
      have GG10 : Hid (W2.heap.size ≤ b10) := by rw [hb10]; exact KV13.out.size
      rw [← hb10]
      obtain ⟨V14, hV14⟩ : ∃ V, V = V13.alloc (.cells (bA 0) 61) := ⟨_, rfl⟩
      rw [← hV14] at Z9 Z10 KV14 ⊢
      clear hV14 hb10
      refine hK.out _ _ ?_ (fun hHeld => ?_)
      · exact ⟨range_below R7r.out KV14.out l7, range_below R8r.out KV14.out l8⟩
      clear hK K
      try simp only [zaP, zsT, zsZ, zsS]
      refine wpAnyH_ready (rs := [6]) (by kernel_rfl) (by simp) ?_
      refine AllReadyH.cons (o := oTimesP6) rfl (fun K hK => ?_) ?_
      ·
       refine step_store_row _ (by rfl) 61 (.tmp 9) (.tmp 20) (by rfl) (b9) (bA X) (by rfl) (by rfl) 61 _ Z9.out (bA_size' _) (bA_old _ _) (bA_all _) ?_
       rw [put_none']
       obtain ⟨V15, hV15⟩ : ∃ V, V = World.setRow V14 b9 (bA X) := ⟨_, rfl⟩
       have Z9 : Hid (V15.heap[b9]? = some (.cells (bA X) 61 (0, 0))) := by rw [hV15]; exact setRow_heap _ _ _ _ _ _ Z9.out
       have Z10 : Hid (V15.heap[b10]? = some (.cells (bA 0) 61 (0, 0))) := by rw [hV15]; exact (setRow_other _ _ _ _ D10_9.out).trans Z10.out
       have KV15 : Hid (Below W2.heap.size W2 V15) := by rw [hV15]; exact below_setRow KV14.out GG9.out _
       rw [← hV15]
       clear hV15
       refine hK.out _ _ ?_ (fun hHeld => ?_)
       · exact ⟨range_below R7r.out KV15.out l7, range_below R8r.out KV15.out l8⟩
       clear hK K
       try simp only [zaP, zsT, zsZ, zsS]
       refine wpAnyH_ready (rs := [7]) (by kernel_rfl) (by simp) ?_
       refine AllReadyH.cons (o := oTimesP7) rfl (fun K hK => ?_) ?_
       ·
        refine step_store_row _ (by rfl) 61 (.tmp 10) (.tmp 22) (by rfl) (b10) (bA Y) (by rfl) (by rfl) 61 _ Z10.out (bA_size' _) (bA_old _ _) (bA_all _) ?_
        rw [put_none']
        obtain ⟨V16, hV16⟩ : ∃ V, V = World.setRow V15 b10 (bA Y) := ⟨_, rfl⟩
        have Z10 : Hid (V16.heap[b10]? = some (.cells (bA Y) 61 (0, 0))) := by rw [hV16]; exact setRow_heap _ _ _ _ _ _ Z10.out
        have Z9 : Hid (V16.heap[b9]? = some (.cells (bA X) 61 (0, 0))) := by rw [hV16]; exact (setRow_other _ _ _ _ D9_10.out).trans Z9.out
        have KV16 : Hid (Below W2.heap.size W2 V16) := by rw [hV16]; exact below_setRow KV15.out GG10.out _
        rw [← hV16]
        clear hV16
        refine hK.out _ _ ?_ (fun hHeld => ?_)
        · exact ⟨range_below R7r.out KV16.out l7, range_below R8r.out KV16.out l8⟩
        clear hK K
        try simp only [zaP, zsT, zsZ, zsS]
        refine wpAnyH_done (by kernel_rfl) ?_ _
        go_wp2_with fail
        go_meet
        case rel => exact ⟨b9, b10, rfl, rfl, Z9, Z10, D9_10, GG9, KV16⟩
       exact AllReadyH.nil
      exact AllReadyH.nil
     exact AllReadyH.nil
    refine AllReadyH.cons (o := oTimesP5) rfl (fun K hK => ?_) ?_
    ·
     refine step_runTo (w' := V12.alloc (.cells (bA 0) 61)) (by rfl) (.pointer (some ⟨V12.heap.size, 0, none⟩)) (hrunAlloc32 rfl V12) ?_
     obtain ⟨b10, hb10⟩ : ∃ g, g = V12.heap.size := ⟨_, rfl⟩
     have Z10 : Hid ((V12.alloc (.cells (bA 0) 61)).heap[b10]? = some (.cells (bA 0) 61 (0, 0))) := by rw [hb10]; exact heap_alloc_new _ _
     have D10_9 : Hid (b10 ≠ b9) := by have := lt_row Z9.out; rw [hb10]; show _ ≠ _; omega
     have D9_10 : Hid (b9 ≠ b10) := fun e => D10_9.out e.symm
     have Z9 : Hid ((V12.alloc (.cells (bA 0) 61)).heap[b9]? = some (.cells (bA 0) 61 (0, 0))) := (heap_alloc_old _ _ (lt_row Z9.out)).trans Z9.out
     have KV17 := kAl KV12 (.cells (bA 0) 61)
     have GG10 : Hid (W2.heap.size ≤ b10) := by rw [hb10]; exact KV12.out.size
     rw [← hb10]
     obtain ⟨V17, hV17⟩ : ∃ V, V = V12.alloc (.cells (bA 0) 61) := ⟨_, rfl⟩
     rw [← hV17] at Z9 Z10 KV17 ⊢
     clear hV17 hb10
     refine hK.out _ _ ?_ (fun hHeld => ?_)
     · exact ⟨range_below R7r.out KV17.out l7, range_below R8r.out KV17.out l8⟩
     clear hK K
     try simp only [zaP, zsT, zsZ, zsS]
     refine wpAnyH_ready (rs := [3]) (by kernel_rfl) (by simp) ?_
     refine AllReadyH.cons (o := ⟨some 22, .call ⟨.value (.func 46), #[.tmp 21], #[60]⟩, 61, "scalar.go:49", #[zeD 2, zeC 1], none⟩) rfl (fun K hK => ?_) ?_
     ·
      refine step_callTo (by rfl) _ _ (hrunBytes _ rfl (.agg (num4A Y)) rfl V17) _ _ (bytesN Y V17) (fun V18 HBx => ?_)
      have KV18 := kTr KV17 HBx
      have Z9 := hide (row_keep' Z9.out HBx)
      have Z10 := hide (row_keep' Z10.out HBx)
      clear HBx
      refine hK.out _ _ ?_ (fun hHeld => ?_)
      · exact ⟨range_below R7r.out KV18.out l7, range_below R8r.out KV18.out l8⟩
      clear hK K
      try simp only [zaP, zsT, zsZ, zsS]
      refine wpAnyH_ready (rs := [6]) (by kernel_rfl) (by simp) ?_
      refine AllReadyH.cons (o := oTimesP6) rfl (fun K hK => ?_) ?_
      ·
       refine step_store_row _ (by rfl) 61 (.tmp 9) (.tmp 20) (by rfl) (b9) (bA X) (by rfl) (by rfl) 61 _ Z9.out (bA_size' _) (bA_old _ _) (bA_all _) ?_
       rw [put_none']
       obtain ⟨V19, hV19⟩ : ∃ V, V = World.setRow V18 b9 (bA X) := ⟨_, rfl⟩
       have Z9 : Hid (V19.heap[b9]? = some (.cells (bA X) 61 (0, 0))) := by rw [hV19]; exact setRow_heap _ _ _ _ _ _ Z9.out
       have Z10 : Hid (V19.heap[b10]? = some (.cells (bA 0) 61 (0, 0))) := by rw [hV19]; exact (setRow_other _ _ _ _ D10_9.out).trans Z10.out
       have KV19 : Hid (Below W2.heap.size W2 V19) := by rw [hV19]; exact below_setRow KV18.out GG9.out _
       rw [← hV19]
       clear hV19
       refine hK.out _ _ ?_ (fun hHeld => ?_)
       · exact ⟨range_below R7r.out KV19.out l7, range_below R8r.out KV19.out l8⟩
       clear hK K
       try simp only [zaP, zsT, zsZ, zsS]
       refine wpAnyH_ready (rs := [7]) (by kernel_rfl) (by simp) ?_
       refine AllReadyH.cons (o := oTimesP7) rfl (fun K hK => ?_) ?_
       ·
        refine step_store_row _ (by rfl) 61 (.tmp 10) (.tmp 22) (by rfl) (b10) (bA Y) (by rfl) (by rfl) 61 _ Z10.out (bA_size' _) (bA_old _ _) (bA_all _) ?_
        rw [put_none']
        obtain ⟨V20, hV20⟩ : ∃ V, V = World.setRow V19 b10 (bA Y) := ⟨_, rfl⟩
        have Z10 : Hid (V20.heap[b10]? = some (.cells (bA Y) 61 (0, 0))) := by rw [hV20]; exact setRow_heap _ _ _ _ _ _ Z10.out
        have Z9 : Hid (V20.heap[b9]? = some (.cells (bA X) 61 (0, 0))) := by rw [hV20]; exact (setRow_other _ _ _ _ D9_10.out).trans Z9.out
        have KV20 : Hid (Below W2.heap.size W2 V20) := by rw [hV20]; exact below_setRow KV19.out GG10.out _
        rw [← hV20]
        clear hV20
        refine hK.out _ _ ?_ (fun hHeld => ?_)
        · exact ⟨range_below R7r.out KV20.out l7, range_below R8r.out KV20.out l8⟩
        clear hK K
        try simp only [zaP, zsT, zsZ, zsS]
        refine wpAnyH_done (by kernel_rfl) ?_ _
        go_wp2_with fail
        go_meet
        case rel => exact ⟨b9, b10, rfl, rfl, Z9, Z10, D9_10, GG9, KV20⟩
       exact AllReadyH.nil
      exact AllReadyH.nil
     exact AllReadyH.nil
    exact AllReadyH.nil
   refine AllReadyH.cons (o := oTimesP5) rfl (fun K hK => ?_) ?_
   ·
    refine step_runTo (w' := V2.alloc (.cells (bA 0) 61)) (by rfl) (.pointer (some ⟨V2.heap.size, 0, none⟩)) (hrunAlloc32 rfl V2) ?_
    obtain ⟨b10, hb10⟩ : ∃ g, g = V2.heap.size := ⟨_, rfl⟩
    have Z10 : Hid ((V2.alloc (.cells (bA 0) 61)).heap[b10]? = some (.cells (bA 0) 61 (0, 0))) := by rw [hb10]; exact heap_alloc_new _ _
    have KV21 := kAl KV2 (.cells (bA 0) 61)
    have GG10 : Hid (W2.heap.size ≤ b10) := by rw [hb10]; exact KV2.out.size
    rw [← hb10]
    obtain ⟨V21, hV21⟩ : ∃ V, V = V2.alloc (.cells (bA 0) 61) := ⟨_, rfl⟩
    rw [← hV21] at Z10 KV21 ⊢
    clear hV21 hb10
    refine hK.out _ _ ?_ (fun hHeld => ?_)
    · exact ⟨range_below R7r.out KV21.out l7, range_below R8r.out KV21.out l8⟩
    clear hK K
    try simp only [zaP, zsT, zsZ, zsS]
    refine wpAnyH_ready (rs := [3, 4]) (by kernel_rfl) (by simp) ?_
    refine AllReadyH.cons (o := ⟨some 22, .call ⟨.value (.func 46), #[.tmp 21], #[60]⟩, 61, "scalar.go:49", #[zeD 2, zeC 1], none⟩) rfl (fun K hK => ?_) ?_
    ·
     refine step_callTo (by rfl) _ _ (hrunBytes _ rfl (.agg (num4A Y)) rfl V21) _ _ (bytesN Y V21) (fun V22 HBx => ?_)
     have KV22 := kTr KV21 HBx
     have Z10 := hide (row_keep' Z10.out HBx)
     clear HBx
     refine hK.out _ _ ?_ (fun hHeld => ?_)
     · exact ⟨range_below R7r.out KV22.out l7, range_below R8r.out KV22.out l8⟩
     clear hK K
     try simp only [zaP, zsT, zsZ, zsS]
     refine wpAnyH_ready (rs := [4]) (by kernel_rfl) (by simp) ?_
     refine AllReadyH.cons (o := oTimesP4) rfl (fun K hK => ?_) ?_
     ·
      refine step_runTo (w' := V22.alloc (.cells (bA 0) 61)) (by rfl) (.pointer (some ⟨V22.heap.size, 0, none⟩)) (hrunAlloc32 rfl V22) ?_
      obtain ⟨b9, hb9⟩ : ∃ g, g = V22.heap.size := ⟨_, rfl⟩
      have Z9 : Hid ((V22.alloc (.cells (bA 0) 61)).heap[b9]? = some (.cells (bA 0) 61 (0, 0))) := by rw [hb9]; exact heap_alloc_new _ _
      have D9_10 : Hid (b9 ≠ b10) := by have := lt_row Z10.out; rw [hb9]; show _ ≠ _; omega
      have D10_9 : Hid (b10 ≠ b9) := fun e => D9_10.out e.symm
      have Z10 : Hid ((V22.alloc (.cells (bA 0) 61)).heap[b10]? = some (.cells (bA 0) 61 (0, 0))) := (heap_alloc_old _ _ (lt_row Z10.out)).trans Z10.out
      have KV23 := kAl KV22 (.cells (bA 0) 61)
      have GG9 : Hid (W2.heap.size ≤ b9) := by rw [hb9]; exact KV22.out.size
      rw [← hb9]
      obtain ⟨V23, hV23⟩ : ∃ V, V = V22.alloc (.cells (bA 0) 61) := ⟨_, rfl⟩
      rw [← hV23] at Z10 Z9 KV23 ⊢
      clear hV23 hb9
      refine hK.out _ _ ?_ (fun hHeld => ?_)
      · exact ⟨range_below R7r.out KV23.out l7, range_below R8r.out KV23.out l8⟩
      clear hK K
      try simp only [zaP, zsT, zsZ, zsS]
      refine wpAnyH_ready (rs := [6]) (by kernel_rfl) (by simp) ?_
      refine AllReadyH.cons (o := oTimesP6) rfl (fun K hK => ?_) ?_
      ·
       refine step_store_row _ (by rfl) 61 (.tmp 9) (.tmp 20) (by rfl) (b9) (bA X) (by rfl) (by rfl) 61 _ Z9.out (bA_size' _) (bA_old _ _) (bA_all _) ?_
       rw [put_none']
       obtain ⟨V24, hV24⟩ : ∃ V, V = World.setRow V23 b9 (bA X) := ⟨_, rfl⟩
       have Z9 : Hid (V24.heap[b9]? = some (.cells (bA X) 61 (0, 0))) := by rw [hV24]; exact setRow_heap _ _ _ _ _ _ Z9.out
       have Z10 : Hid (V24.heap[b10]? = some (.cells (bA 0) 61 (0, 0))) := by rw [hV24]; exact (setRow_other _ _ _ _ D10_9.out).trans Z10.out
       have KV24 : Hid (Below W2.heap.size W2 V24) := by rw [hV24]; exact below_setRow KV23.out GG9.out _
       rw [← hV24]
       clear hV24
       refine hK.out _ _ ?_ (fun hHeld => ?_)
       · exact ⟨range_below R7r.out KV24.out l7, range_below R8r.out KV24.out l8⟩
       clear hK K
       try simp only [zaP, zsT, zsZ, zsS]
       refine wpAnyH_ready (rs := [7]) (by kernel_rfl) (by simp) ?_
       refine AllReadyH.cons (o := oTimesP7) rfl (fun K hK => ?_) ?_
       ·
        refine step_store_row _ (by rfl) 61 (.tmp 10) (.tmp 22) (by rfl) (b10) (bA Y) (by rfl) (by rfl) 61 _ Z10.out (bA_size' _) (bA_old _ _) (bA_all _) ?_
        rw [put_none']
        obtain ⟨V25, hV25⟩ : ∃ V, V = World.setRow V24 b10 (bA Y) := ⟨_, rfl⟩
        have Z10 : Hid (V25.heap[b10]? = some (.cells (bA Y) 61 (0, 0))) := by rw [hV25]; exact setRow_heap _ _ _ _ _ _ Z10.out
        have Z9 : Hid (V25.heap[b9]? = some (.cells (bA X) 61 (0, 0))) := by rw [hV25]; exact (setRow_other _ _ _ _ D9_10.out).trans Z9.out
        have KV25 : Hid (Below W2.heap.size W2 V25) := by rw [hV25]; exact below_setRow KV24.out GG10.out _
        rw [← hV25]
        clear hV25
        refine hK.out _ _ ?_ (fun hHeld => ?_)
        · exact ⟨range_below R7r.out KV25.out l7, range_below R8r.out KV25.out l8⟩
        clear hK K
        try simp only [zaP, zsT, zsZ, zsS]
        refine wpAnyH_done (by kernel_rfl) ?_ _
        go_wp2_with fail
        go_meet
        case rel => exact ⟨b9, b10, rfl, rfl, Z9, Z10, D9_10, GG9, KV25⟩
       exact AllReadyH.nil
      exact AllReadyH.nil
     exact AllReadyH.nil
    refine AllReadyH.cons (o := oTimesP4) rfl (fun K hK => ?_) ?_
    ·
     refine step_runTo (w' := V21.alloc (.cells (bA 0) 61)) (by rfl) (.pointer (some ⟨V21.heap.size, 0, none⟩)) (hrunAlloc32 rfl V21) ?_
     obtain ⟨b9, hb9⟩ : ∃ g, g = V21.heap.size := ⟨_, rfl⟩
     have Z9 : Hid ((V21.alloc (.cells (bA 0) 61)).heap[b9]? = some (.cells (bA 0) 61 (0, 0))) := by rw [hb9]; exact heap_alloc_new _ _
     have D9_10 : Hid (b9 ≠ b10) := by have := lt_row Z10.out; rw [hb9]; show _ ≠ _; omega
     have D10_9 : Hid (b10 ≠ b9) := fun e => D9_10.out e.symm
     have Z10 : Hid ((V21.alloc (.cells (bA 0) 61)).heap[b10]? = some (.cells (bA 0) 61 (0, 0))) := (heap_alloc_old _ _ (lt_row Z10.out)).trans Z10.out
     have KV26 := kAl KV21 (.cells (bA 0) 61)
     have GG9 : Hid (W2.heap.size ≤ b9) := by rw [hb9]; exact KV21.out.size
     rw [← hb9]
     obtain ⟨V26, hV26⟩ : ∃ V, V = V21.alloc (.cells (bA 0) 61) := ⟨_, rfl⟩
     rw [← hV26] at Z10 Z9 KV26 ⊢
     clear hV26 hb9
     refine hK.out _ _ ?_ (fun hHeld => ?_)
     · exact ⟨range_below R7r.out KV26.out l7, range_below R8r.out KV26.out l8⟩
     clear hK K
     try simp only [zaP, zsT, zsZ, zsS]
     refine wpAnyH_ready (rs := [3]) (by kernel_rfl) (by simp) ?_
     refine AllReadyH.cons (o := ⟨some 22, .call ⟨.value (.func 46), #[.tmp 21], #[60]⟩, 61, "scalar.go:49", #[zeD 2, zeC 1], none⟩) rfl (fun K hK => ?_) ?_
     ·
      refine step_callTo (by rfl) _ _ (hrunBytes _ rfl (.agg (num4A Y)) rfl V26) _ _ (bytesN Y V26) (fun V27 HBx => ?_)
      have KV27 := kTr KV26 HBx
      have Z10 := hide (row_keep' Z10.out HBx)
      have Z9 := hide (row_keep' Z9.out HBx)
      clear HBx
      refine hK.out _ _ ?_ (fun hHeld => ?_)
      · exact ⟨range_below R7r.out KV27.out l7, range_below R8r.out KV27.out l8⟩
      clear hK K
      try simp only [zaP, zsT, zsZ, zsS]
      refine wpAnyH_ready (rs := [6]) (by kernel_rfl) (by simp) ?_
      refine AllReadyH.cons (o := oTimesP6) rfl (fun K hK => ?_) ?_
      ·
       refine step_store_row _ (by rfl) 61 (.tmp 9) (.tmp 20) (by rfl) (b9) (bA X) (by rfl) (by rfl) 61 _ Z9.out (bA_size' _) (bA_old _ _) (bA_all _) ?_
       rw [put_none']
       obtain ⟨V28, hV28⟩ : ∃ V, V = World.setRow V27 b9 (bA X) := ⟨_, rfl⟩
       have Z9 : Hid (V28.heap[b9]? = some (.cells (bA X) 61 (0, 0))) := by rw [hV28]; exact setRow_heap _ _ _ _ _ _ Z9.out
       have Z10 : Hid (V28.heap[b10]? = some (.cells (bA 0) 61 (0, 0))) := by rw [hV28]; exact (setRow_other _ _ _ _ D10_9.out).trans Z10.out
       have KV28 : Hid (Below W2.heap.size W2 V28) := by rw [hV28]; exact below_setRow KV27.out GG9.out _
       rw [← hV28]
       clear hV28
       refine hK.out _ _ ?_ (fun hHeld => ?_)
       · exact ⟨range_below R7r.out KV28.out l7, range_below R8r.out KV28.out l8⟩
       clear hK K
       try simp only [zaP, zsT, zsZ, zsS]
       refine wpAnyH_ready (rs := [7]) (by kernel_rfl) (by simp) ?_
       refine AllReadyH.cons (o := oTimesP7) rfl (fun K hK => ?_) ?_
       ·
        refine step_store_row _ (by rfl) 61 (.tmp 10) (.tmp 22) (by rfl) (b10) (bA Y) (by rfl) (by rfl) 61 _ Z10.out (bA_size' _) (bA_old _ _) (bA_all _) ?_
        rw [put_none']
        obtain ⟨V29, hV29⟩ : ∃ V, V = World.setRow V28 b10 (bA Y) := ⟨_, rfl⟩
        have Z10 : Hid (V29.heap[b10]? = some (.cells (bA Y) 61 (0, 0))) := by rw [hV29]; exact setRow_heap _ _ _ _ _ _ Z10.out
        have Z9 : Hid (V29.heap[b9]? = some (.cells (bA X) 61 (0, 0))) := by rw [hV29]; exact (setRow_other _ _ _ _ D9_10.out).trans Z9.out
        have KV29 : Hid (Below W2.heap.size W2 V29) := by rw [hV29]; exact below_setRow KV28.out GG10.out _
        rw [← hV29]
        clear hV29
        refine hK.out _ _ ?_ (fun hHeld => ?_)
        · exact ⟨range_below R7r.out KV29.out l7, range_below R8r.out KV29.out l8⟩
        clear hK K
        try simp only [zaP, zsT, zsZ, zsS]
        refine wpAnyH_done (by kernel_rfl) ?_ _
        go_wp2_with fail
        go_meet
        case rel => exact ⟨b9, b10, rfl, rfl, Z9, Z10, D9_10, GG9, KV29⟩
       exact AllReadyH.nil
      exact AllReadyH.nil
     exact AllReadyH.nil
    exact AllReadyH.nil
   exact AllReadyH.nil
  refine AllReadyH.cons (o := oTimesP4) rfl (fun K hK => ?_) ?_
  ·
   refine step_runTo (w' := V1.alloc (.cells (bA 0) 61)) (by rfl) (.pointer (some ⟨V1.heap.size, 0, none⟩)) (hrunAlloc32 rfl V1) ?_
   obtain ⟨b9, hb9⟩ : ∃ g, g = V1.heap.size := ⟨_, rfl⟩
   have Z9 : Hid ((V1.alloc (.cells (bA 0) 61)).heap[b9]? = some (.cells (bA 0) 61 (0, 0))) := by rw [hb9]; exact heap_alloc_new _ _
   have KV30 := kAl KV1 (.cells (bA 0) 61)
   have GG9 : Hid (W2.heap.size ≤ b9) := by rw [hb9]; exact KV1.out.size
   rw [← hb9]
   obtain ⟨V30, hV30⟩ : ∃ V, V = V1.alloc (.cells (bA 0) 61) := ⟨_, rfl⟩
   rw [← hV30] at Z9 KV30 ⊢
   clear hV30 hb9
   refine hK.out _ _ ?_ (fun hHeld => ?_)
   · exact ⟨range_below R7r.out KV30.out l7, range_below R8r.out KV30.out l8⟩
   clear hK K
   try simp only [zaP, zsT, zsZ, zsS]
   refine wpAnyH_ready (rs := [1, 5]) (by kernel_rfl) (by simp) ?_
   refine AllReadyH.cons (o := ⟨some 20, .call ⟨.value (.func 46), #[.tmp 19], #[60]⟩, 61, "scalar.go:49", #[zeD 0], none⟩) rfl (fun K hK => ?_) ?_
   ·
    refine step_callTo (by rfl) _ _ (hrunBytes _ rfl (.agg (num4A X)) rfl V30) _ _ (bytesN X V30) (fun V31 HBx => ?_)
    have KV31 := kTr KV30 HBx
    have Z9 := hide (row_keep' Z9.out HBx)
    clear HBx
    refine hK.out _ _ ?_ (fun hHeld => ?_)
    · exact ⟨range_below R7r.out KV31.out l7, range_below R8r.out KV31.out l8⟩
    clear hK K
    try simp only [zaP, zsT, zsZ, zsS]
    refine wpAnyH_ready (rs := [3, 5]) (by kernel_rfl) (by simp) ?_
    refine AllReadyH.cons (o := ⟨some 22, .call ⟨.value (.func 46), #[.tmp 21], #[60]⟩, 61, "scalar.go:49", #[zeD 2, zeC 1], none⟩) rfl (fun K hK => ?_) ?_
    ·
     refine step_callTo (by rfl) _ _ (hrunBytes _ rfl (.agg (num4A Y)) rfl V31) _ _ (bytesN Y V31) (fun V32 HBx => ?_)
     have KV32 := kTr KV31 HBx
     have Z9 := hide (row_keep' Z9.out HBx)
     clear HBx
     refine hK.out _ _ ?_ (fun hHeld => ?_)
     · exact ⟨range_below R7r.out KV32.out l7, range_below R8r.out KV32.out l8⟩
     clear hK K
     try simp only [zaP, zsT, zsZ, zsS]
     refine wpAnyH_ready (rs := [5]) (by kernel_rfl) (by simp) ?_
     refine AllReadyH.cons (o := oTimesP5) rfl (fun K hK => ?_) ?_
     ·
      refine step_runTo (w' := V32.alloc (.cells (bA 0) 61)) (by rfl) (.pointer (some ⟨V32.heap.size, 0, none⟩)) (hrunAlloc32 rfl V32) ?_
      obtain ⟨b10, hb10⟩ : ∃ g, g = V32.heap.size := ⟨_, rfl⟩
      have Z10 : Hid ((V32.alloc (.cells (bA 0) 61)).heap[b10]? = some (.cells (bA 0) 61 (0, 0))) := by rw [hb10]; exact heap_alloc_new _ _
      have D10_9 : Hid (b10 ≠ b9) := by have := lt_row Z9.out; rw [hb10]; show _ ≠ _; omega
      have D9_10 : Hid (b9 ≠ b10) := fun e => D10_9.out e.symm
      have Z9 : Hid ((V32.alloc (.cells (bA 0) 61)).heap[b9]? = some (.cells (bA 0) 61 (0, 0))) := (heap_alloc_old _ _ (lt_row Z9.out)).trans Z9.out
      have KV33 := kAl KV32 (.cells (bA 0) 61)
      have GG10 : Hid (W2.heap.size ≤ b10) := by rw [hb10]; exact KV32.out.size
      rw [← hb10]
      obtain ⟨V33, hV33⟩ : ∃ V, V = V32.alloc (.cells (bA 0) 61) := ⟨_, rfl⟩
      rw [← hV33] at Z9 Z10 KV33 ⊢
      clear hV33 hb10
      refine hK.out _ _ ?_ (fun hHeld => ?_)
      · exact ⟨range_below R7r.out KV33.out l7, range_below R8r.out KV33.out l8⟩
      clear hK K
      try simp only [zaP, zsT, zsZ, zsS]
      refine wpAnyH_ready (rs := [6]) (by kernel_rfl) (by simp) ?_
      refine AllReadyH.cons (o := oTimesP6) rfl (fun K hK => ?_) ?_
      ·
       refine step_store_row _ (by rfl) 61 (.tmp 9) (.tmp 20) (by rfl) (b9) (bA X) (by rfl) (by rfl) 61 _ Z9.out (bA_size' _) (bA_old _ _) (bA_all _) ?_
       rw [put_none']
       obtain ⟨V34, hV34⟩ : ∃ V, V = World.setRow V33 b9 (bA X) := ⟨_, rfl⟩
       have Z9 : Hid (V34.heap[b9]? = some (.cells (bA X) 61 (0, 0))) := by rw [hV34]; exact setRow_heap _ _ _ _ _ _ Z9.out
       have Z10 : Hid (V34.heap[b10]? = some (.cells (bA 0) 61 (0, 0))) := by rw [hV34]; exact (setRow_other _ _ _ _ D10_9.out).trans Z10.out
       have KV34 : Hid (Below W2.heap.size W2 V34) := by rw [hV34]; exact below_setRow KV33.out GG9.out _
       rw [← hV34]
       clear hV34
       refine hK.out _ _ ?_ (fun hHeld => ?_)
       · exact ⟨range_below R7r.out KV34.out l7, range_below R8r.out KV34.out l8⟩
       clear hK K
       try simp only [zaP, zsT, zsZ, zsS]
       refine wpAnyH_ready (rs := [7]) (by kernel_rfl) (by simp) ?_
       refine AllReadyH.cons (o := oTimesP7) rfl (fun K hK => ?_) ?_
       ·
        refine step_store_row _ (by rfl) 61 (.tmp 10) (.tmp 22) (by rfl) (b10) (bA Y) (by rfl) (by rfl) 61 _ Z10.out (bA_size' _) (bA_old _ _) (bA_all _) ?_
        rw [put_none']
        obtain ⟨V35, hV35⟩ : ∃ V, V = World.setRow V34 b10 (bA Y) := ⟨_, rfl⟩
        have Z10 : Hid (V35.heap[b10]? = some (.cells (bA Y) 61 (0, 0))) := by rw [hV35]; exact setRow_heap _ _ _ _ _ _ Z10.out
        have Z9 : Hid (V35.heap[b9]? = some (.cells (bA X) 61 (0, 0))) := by rw [hV35]; exact (setRow_other _ _ _ _ D9_10.out).trans Z9.out
        have KV35 : Hid (Below W2.heap.size W2 V35) := by rw [hV35]; exact below_setRow KV34.out GG10.out _
        rw [← hV35]
        clear hV35
        refine hK.out _ _ ?_ (fun hHeld => ?_)
        · exact ⟨range_below R7r.out KV35.out l7, range_below R8r.out KV35.out l8⟩
        clear hK K
        try simp only [zaP, zsT, zsZ, zsS]
        refine wpAnyH_done (by kernel_rfl) ?_ _
        go_wp2_with fail
        go_meet
        case rel => exact ⟨b9, b10, rfl, rfl, Z9, Z10, D9_10, GG9, KV35⟩
       exact AllReadyH.nil
      exact AllReadyH.nil
     exact AllReadyH.nil
    refine AllReadyH.cons (o := oTimesP5) rfl (fun K hK => ?_) ?_
    ·
     refine step_runTo (w' := V31.alloc (.cells (bA 0) 61)) (by rfl) (.pointer (some ⟨V31.heap.size, 0, none⟩)) (hrunAlloc32 rfl V31) ?_
     obtain ⟨b10, hb10⟩ : ∃ g, g = V31.heap.size := ⟨_, rfl⟩
     have Z10 : Hid ((V31.alloc (.cells (bA 0) 61)).heap[b10]? = some (.cells (bA 0) 61 (0, 0))) := by rw [hb10]; exact heap_alloc_new _ _
     have D10_9 : Hid (b10 ≠ b9) := by have := lt_row Z9.out; rw [hb10]; show _ ≠ _; omega
     have D9_10 : Hid (b9 ≠ b10) := fun e => D10_9.out e.symm
     have Z9 : Hid ((V31.alloc (.cells (bA 0) 61)).heap[b9]? = some (.cells (bA 0) 61 (0, 0))) := (heap_alloc_old _ _ (lt_row Z9.out)).trans Z9.out
     have KV36 := kAl KV31 (.cells (bA 0) 61)
     have GG10 : Hid (W2.heap.size ≤ b10) := by rw [hb10]; exact KV31.out.size
     rw [← hb10]
     obtain ⟨V36, hV36⟩ : ∃ V, V = V31.alloc (.cells (bA 0) 61) := ⟨_, rfl⟩
     rw [← hV36] at Z9 Z10 KV36 ⊢
     clear hV36 hb10
     refine hK.out _ _ ?_ (fun hHeld => ?_)
     · exact ⟨range_below R7r.out KV36.out l7, range_below R8r.out KV36.out l8⟩
     clear hK K
     try simp only [zaP, zsT, zsZ, zsS]
     refine wpAnyH_ready (rs := [3]) (by kernel_rfl) (by simp) ?_
     refine AllReadyH.cons (o := ⟨some 22, .call ⟨.value (.func 46), #[.tmp 21], #[60]⟩, 61, "scalar.go:49", #[zeD 2, zeC 1], none⟩) rfl (fun K hK => ?_) ?_
     ·
      refine step_callTo (by rfl) _ _ (hrunBytes _ rfl (.agg (num4A Y)) rfl V36) _ _ (bytesN Y V36) (fun V37 HBx => ?_)
      have KV37 := kTr KV36 HBx
      have Z9 := hide (row_keep' Z9.out HBx)
      have Z10 := hide (row_keep' Z10.out HBx)
      clear HBx
      refine hK.out _ _ ?_ (fun hHeld => ?_)
      · exact ⟨range_below R7r.out KV37.out l7, range_below R8r.out KV37.out l8⟩
      clear hK K
      try simp only [zaP, zsT, zsZ, zsS]
      refine wpAnyH_ready (rs := [6]) (by kernel_rfl) (by simp) ?_
      refine AllReadyH.cons (o := oTimesP6) rfl (fun K hK => ?_) ?_
      ·
       refine step_store_row _ (by rfl) 61 (.tmp 9) (.tmp 20) (by rfl) (b9) (bA X) (by rfl) (by rfl) 61 _ Z9.out (bA_size' _) (bA_old _ _) (bA_all _) ?_
       rw [put_none']
       obtain ⟨V38, hV38⟩ : ∃ V, V = World.setRow V37 b9 (bA X) := ⟨_, rfl⟩
       have Z9 : Hid (V38.heap[b9]? = some (.cells (bA X) 61 (0, 0))) := by rw [hV38]; exact setRow_heap _ _ _ _ _ _ Z9.out
       have Z10 : Hid (V38.heap[b10]? = some (.cells (bA 0) 61 (0, 0))) := by rw [hV38]; exact (setRow_other _ _ _ _ D10_9.out).trans Z10.out
       have KV38 : Hid (Below W2.heap.size W2 V38) := by rw [hV38]; exact below_setRow KV37.out GG9.out _
       rw [← hV38]
       clear hV38
       refine hK.out _ _ ?_ (fun hHeld => ?_)
       · exact ⟨range_below R7r.out KV38.out l7, range_below R8r.out KV38.out l8⟩
       clear hK K
       try simp only [zaP, zsT, zsZ, zsS]
       refine wpAnyH_ready (rs := [7]) (by kernel_rfl) (by simp) ?_
       refine AllReadyH.cons (o := oTimesP7) rfl (fun K hK => ?_) ?_
       ·
        refine step_store_row _ (by rfl) 61 (.tmp 10) (.tmp 22) (by rfl) (b10) (bA Y) (by rfl) (by rfl) 61 _ Z10.out (bA_size' _) (bA_old _ _) (bA_all _) ?_
        rw [put_none']
        obtain ⟨V39, hV39⟩ : ∃ V, V = World.setRow V38 b10 (bA Y) := ⟨_, rfl⟩
        have Z10 : Hid (V39.heap[b10]? = some (.cells (bA Y) 61 (0, 0))) := by rw [hV39]; exact setRow_heap _ _ _ _ _ _ Z10.out
        have Z9 : Hid (V39.heap[b9]? = some (.cells (bA X) 61 (0, 0))) := by rw [hV39]; exact (setRow_other _ _ _ _ D9_10.out).trans Z9.out
        have KV39 : Hid (Below W2.heap.size W2 V39) := by rw [hV39]; exact below_setRow KV38.out GG10.out _
        rw [← hV39]
        clear hV39
        refine hK.out _ _ ?_ (fun hHeld => ?_)
        · exact ⟨range_below R7r.out KV39.out l7, range_below R8r.out KV39.out l8⟩
        clear hK K
        try simp only [zaP, zsT, zsZ, zsS]
        refine wpAnyH_done (by kernel_rfl) ?_ _
        go_wp2_with fail
        go_meet
        case rel => exact ⟨b9, b10, rfl, rfl, Z9, Z10, D9_10, GG9, KV39⟩
       exact AllReadyH.nil
      exact AllReadyH.nil
     exact AllReadyH.nil
    exact AllReadyH.nil
   refine AllReadyH.cons (o := oTimesP5) rfl (fun K hK => ?_) ?_
   ·
    refine step_runTo (w' := V30.alloc (.cells (bA 0) 61)) (by rfl) (.pointer (some ⟨V30.heap.size, 0, none⟩)) (hrunAlloc32 rfl V30) ?_
    obtain ⟨b10, hb10⟩ : ∃ g, g = V30.heap.size := ⟨_, rfl⟩
    have Z10 : Hid ((V30.alloc (.cells (bA 0) 61)).heap[b10]? = some (.cells (bA 0) 61 (0, 0))) := by rw [hb10]; exact heap_alloc_new _ _
    have D10_9 : Hid (b10 ≠ b9) := by have := lt_row Z9.out; rw [hb10]; show _ ≠ _; omega
    have D9_10 : Hid (b9 ≠ b10) := fun e => D10_9.out e.symm
    have Z9 : Hid ((V30.alloc (.cells (bA 0) 61)).heap[b9]? = some (.cells (bA 0) 61 (0, 0))) := (heap_alloc_old _ _ (lt_row Z9.out)).trans Z9.out
    have KV40 := kAl KV30 (.cells (bA 0) 61)
    have GG10 : Hid (W2.heap.size ≤ b10) := by rw [hb10]; exact KV30.out.size
    rw [← hb10]
    obtain ⟨V40, hV40⟩ : ∃ V, V = V30.alloc (.cells (bA 0) 61) := ⟨_, rfl⟩
    rw [← hV40] at Z9 Z10 KV40 ⊢
    clear hV40 hb10
    refine hK.out _ _ ?_ (fun hHeld => ?_)
    · exact ⟨range_below R7r.out KV40.out l7, range_below R8r.out KV40.out l8⟩
    clear hK K
    try simp only [zaP, zsT, zsZ, zsS]
    refine wpAnyH_ready (rs := [1]) (by kernel_rfl) (by simp) ?_
    refine AllReadyH.cons (o := ⟨some 20, .call ⟨.value (.func 46), #[.tmp 19], #[60]⟩, 61, "scalar.go:49", #[zeD 0], none⟩) rfl (fun K hK => ?_) ?_
    ·
     refine step_callTo (by rfl) _ _ (hrunBytes _ rfl (.agg (num4A X)) rfl V40) _ _ (bytesN X V40) (fun V41 HBx => ?_)
     have KV41 := kTr KV40 HBx
     have Z9 := hide (row_keep' Z9.out HBx)
     have Z10 := hide (row_keep' Z10.out HBx)
     clear HBx
     refine hK.out _ _ ?_ (fun hHeld => ?_)
     · exact ⟨range_below R7r.out KV41.out l7, range_below R8r.out KV41.out l8⟩
     clear hK K
     try simp only [zaP, zsT, zsZ, zsS]
     refine wpAnyH_ready (rs := [3]) (by kernel_rfl) (by simp) ?_
     refine AllReadyH.cons (o := ⟨some 22, .call ⟨.value (.func 46), #[.tmp 21], #[60]⟩, 61, "scalar.go:49", #[zeD 2, zeC 1], none⟩) rfl (fun K hK => ?_) ?_
     ·
      refine step_callTo (by rfl) _ _ (hrunBytes _ rfl (.agg (num4A Y)) rfl V41) _ _ (bytesN Y V41) (fun V42 HBx => ?_)
      have KV42 := kTr KV41 HBx
      have Z9 := hide (row_keep' Z9.out HBx)
      have Z10 := hide (row_keep' Z10.out HBx)
      clear HBx
      refine hK.out _ _ ?_ (fun hHeld => ?_)
      · exact ⟨range_below R7r.out KV42.out l7, range_below R8r.out KV42.out l8⟩
      clear hK K
      try simp only [zaP, zsT, zsZ, zsS]
      refine wpAnyH_ready (rs := [6]) (by kernel_rfl) (by simp) ?_
      refine AllReadyH.cons (o := oTimesP6) rfl (fun K hK => ?_) ?_
      ·
       refine step_store_row _ (by rfl) 61 (.tmp 9) (.tmp 20) (by rfl) (b9) (bA X) (by rfl) (by rfl) 61 _ Z9.out (bA_size' _) (bA_old _ _) (bA_all _) ?_
       rw [put_none']
       obtain ⟨V43, hV43⟩ : ∃ V, V = World.setRow V42 b9 (bA X) := ⟨_, rfl⟩
       have Z9 : Hid (V43.heap[b9]? = some (.cells (bA X) 61 (0, 0))) := by rw [hV43]; exact setRow_heap _ _ _ _ _ _ Z9.out
       have Z10 : Hid (V43.heap[b10]? = some (.cells (bA 0) 61 (0, 0))) := by rw [hV43]; exact (setRow_other _ _ _ _ D10_9.out).trans Z10.out
       have KV43 : Hid (Below W2.heap.size W2 V43) := by rw [hV43]; exact below_setRow KV42.out GG9.out _
       rw [← hV43]
       clear hV43
       refine hK.out _ _ ?_ (fun hHeld => ?_)
       · exact ⟨range_below R7r.out KV43.out l7, range_below R8r.out KV43.out l8⟩
       clear hK K
       try simp only [zaP, zsT, zsZ, zsS]
       refine wpAnyH_ready (rs := [7]) (by kernel_rfl) (by simp) ?_
       refine AllReadyH.cons (o := oTimesP7) rfl (fun K hK => ?_) ?_
       ·
        refine step_store_row _ (by rfl) 61 (.tmp 10) (.tmp 22) (by rfl) (b10) (bA Y) (by rfl) (by rfl) 61 _ Z10.out (bA_size' _) (bA_old _ _) (bA_all _) ?_
        rw [put_none']
        obtain ⟨V44, hV44⟩ : ∃ V, V = World.setRow V43 b10 (bA Y) := ⟨_, rfl⟩
        have Z10 : Hid (V44.heap[b10]? = some (.cells (bA Y) 61 (0, 0))) := by rw [hV44]; exact setRow_heap _ _ _ _ _ _ Z10.out
        have Z9 : Hid (V44.heap[b9]? = some (.cells (bA X) 61 (0, 0))) := by rw [hV44]; exact (setRow_other _ _ _ _ D9_10.out).trans Z9.out
        have KV44 : Hid (Below W2.heap.size W2 V44) := by rw [hV44]; exact below_setRow KV43.out GG10.out _
        rw [← hV44]
        clear hV44
        refine hK.out _ _ ?_ (fun hHeld => ?_)
        · exact ⟨range_below R7r.out KV44.out l7, range_below R8r.out KV44.out l8⟩
        clear hK K
        try simp only [zaP, zsT, zsZ, zsS]
        refine wpAnyH_done (by kernel_rfl) ?_ _
        go_wp2_with fail
        go_meet
        case rel => exact ⟨b9, b10, rfl, rfl, Z9, Z10, D9_10, GG9, KV44⟩
       exact AllReadyH.nil
      exact AllReadyH.nil
     exact AllReadyH.nil
    exact AllReadyH.nil
   exact AllReadyH.nil
  refine AllReadyH.cons (o := oTimesP5) rfl (fun K hK => ?_) ?_
  ·
   refine step_runTo (w' := V1.alloc (.cells (bA 0) 61)) (by rfl) (.pointer (some ⟨V1.heap.size, 0, none⟩)) (hrunAlloc32 rfl V1) ?_
   obtain ⟨b10, hb10⟩ : ∃ g, g = V1.heap.size := ⟨_, rfl⟩
   have Z10 : Hid ((V1.alloc (.cells (bA 0) 61)).heap[b10]? = some (.cells (bA 0) 61 (0, 0))) := by rw [hb10]; exact heap_alloc_new _ _
   have KV45 := kAl KV1 (.cells (bA 0) 61)
   have GG10 : Hid (W2.heap.size ≤ b10) := by rw [hb10]; exact KV1.out.size
   rw [← hb10]
   obtain ⟨V45, hV45⟩ : ∃ V, V = V1.alloc (.cells (bA 0) 61) := ⟨_, rfl⟩
   rw [← hV45] at Z10 KV45 ⊢
   clear hV45 hb10
   refine hK.out _ _ ?_ (fun hHeld => ?_)
   · exact ⟨range_below R7r.out KV45.out l7, range_below R8r.out KV45.out l8⟩
   clear hK K
   try simp only [zaP, zsT, zsZ, zsS]
   refine wpAnyH_ready (rs := [1, 4]) (by kernel_rfl) (by simp) ?_
   refine AllReadyH.cons (o := ⟨some 20, .call ⟨.value (.func 46), #[.tmp 19], #[60]⟩, 61, "scalar.go:49", #[zeD 0], none⟩) rfl (fun K hK => ?_) ?_
   ·
    refine step_callTo (by rfl) _ _ (hrunBytes _ rfl (.agg (num4A X)) rfl V45) _ _ (bytesN X V45) (fun V46 HBx => ?_)
    have KV46 := kTr KV45 HBx
    have Z10 := hide (row_keep' Z10.out HBx)
    clear HBx
    refine hK.out _ _ ?_ (fun hHeld => ?_)
    · exact ⟨range_below R7r.out KV46.out l7, range_below R8r.out KV46.out l8⟩
    clear hK K
    try simp only [zaP, zsT, zsZ, zsS]
    refine wpAnyH_ready (rs := [3, 4]) (by kernel_rfl) (by simp) ?_
    refine AllReadyH.cons (o := ⟨some 22, .call ⟨.value (.func 46), #[.tmp 21], #[60]⟩, 61, "scalar.go:49", #[zeD 2, zeC 1], none⟩) rfl (fun K hK => ?_) ?_
    ·
     refine step_callTo (by rfl) _ _ (hrunBytes _ rfl (.agg (num4A Y)) rfl V46) _ _ (bytesN Y V46) (fun V47 HBx => ?_)
     have KV47 := kTr KV46 HBx
     have Z10 := hide (row_keep' Z10.out HBx)
     clear HBx
     refine hK.out _ _ ?_ (fun hHeld => ?_)
     · exact ⟨range_below R7r.out KV47.out l7, range_below R8r.out KV47.out l8⟩
     clear hK K
     try simp only [zaP, zsT, zsZ, zsS]
     refine wpAnyH_ready (rs := [4]) (by kernel_rfl) (by simp) ?_
     refine AllReadyH.cons (o := oTimesP4) rfl (fun K hK => ?_) ?_
     ·
      refine step_runTo (w' := V47.alloc (.cells (bA 0) 61)) (by rfl) (.pointer (some ⟨V47.heap.size, 0, none⟩)) (hrunAlloc32 rfl V47) ?_
      obtain ⟨b9, hb9⟩ : ∃ g, g = V47.heap.size := ⟨_, rfl⟩
      have Z9 : Hid ((V47.alloc (.cells (bA 0) 61)).heap[b9]? = some (.cells (bA 0) 61 (0, 0))) := by rw [hb9]; exact heap_alloc_new _ _
      have D9_10 : Hid (b9 ≠ b10) := by have := lt_row Z10.out; rw [hb9]; show _ ≠ _; omega
      have D10_9 : Hid (b10 ≠ b9) := fun e => D9_10.out e.symm
      have Z10 : Hid ((V47.alloc (.cells (bA 0) 61)).heap[b10]? = some (.cells (bA 0) 61 (0, 0))) := (heap_alloc_old _ _ (lt_row Z10.out)).trans Z10.out
      have KV48 := kAl KV47 (.cells (bA 0) 61)
      have GG9 : Hid (W2.heap.size ≤ b9) := by rw [hb9]; exact KV47.out.size
      rw [← hb9]
      obtain ⟨V48, hV48⟩ : ∃ V, V = V47.alloc (.cells (bA 0) 61) := ⟨_, rfl⟩
      rw [← hV48] at Z10 Z9 KV48 ⊢
      clear hV48 hb9
      refine hK.out _ _ ?_ (fun hHeld => ?_)
      · exact ⟨range_below R7r.out KV48.out l7, range_below R8r.out KV48.out l8⟩
      clear hK K
      try simp only [zaP, zsT, zsZ, zsS]
      refine wpAnyH_ready (rs := [6]) (by kernel_rfl) (by simp) ?_
      refine AllReadyH.cons (o := oTimesP6) rfl (fun K hK => ?_) ?_
      ·
       refine step_store_row _ (by rfl) 61 (.tmp 9) (.tmp 20) (by rfl) (b9) (bA X) (by rfl) (by rfl) 61 _ Z9.out (bA_size' _) (bA_old _ _) (bA_all _) ?_
       rw [put_none']
       obtain ⟨V49, hV49⟩ : ∃ V, V = World.setRow V48 b9 (bA X) := ⟨_, rfl⟩
       have Z9 : Hid (V49.heap[b9]? = some (.cells (bA X) 61 (0, 0))) := by rw [hV49]; exact setRow_heap _ _ _ _ _ _ Z9.out
       have Z10 : Hid (V49.heap[b10]? = some (.cells (bA 0) 61 (0, 0))) := by rw [hV49]; exact (setRow_other _ _ _ _ D10_9.out).trans Z10.out
       have KV49 : Hid (Below W2.heap.size W2 V49) := by rw [hV49]; exact below_setRow KV48.out GG9.out _
       rw [← hV49]
       clear hV49
       refine hK.out _ _ ?_ (fun hHeld => ?_)
       · exact ⟨range_below R7r.out KV49.out l7, range_below R8r.out KV49.out l8⟩
       clear hK K
       try simp only [zaP, zsT, zsZ, zsS]
       refine wpAnyH_ready (rs := [7]) (by kernel_rfl) (by simp) ?_
       refine AllReadyH.cons (o := oTimesP7) rfl (fun K hK => ?_) ?_
       ·
        refine step_store_row _ (by rfl) 61 (.tmp 10) (.tmp 22) (by rfl) (b10) (bA Y) (by rfl) (by rfl) 61 _ Z10.out (bA_size' _) (bA_old _ _) (bA_all _) ?_
        rw [put_none']
        obtain ⟨V50, hV50⟩ : ∃ V, V = World.setRow V49 b10 (bA Y) := ⟨_, rfl⟩
        have Z10 : Hid (V50.heap[b10]? = some (.cells (bA Y) 61 (0, 0))) := by rw [hV50]; exact setRow_heap _ _ _ _ _ _ Z10.out
        have Z9 : Hid (V50.heap[b9]? = some (.cells (bA X) 61 (0, 0))) := by rw [hV50]; exact (setRow_other _ _ _ _ D9_10.out).trans Z9.out
        have KV50 : Hid (Below W2.heap.size W2 V50) := by rw [hV50]; exact below_setRow KV49.out GG10.out _
        rw [← hV50]
        clear hV50
        refine hK.out _ _ ?_ (fun hHeld => ?_)
        · exact ⟨range_below R7r.out KV50.out l7, range_below R8r.out KV50.out l8⟩
        clear hK K
        try simp only [zaP, zsT, zsZ, zsS]
        refine wpAnyH_done (by kernel_rfl) ?_ _
        go_wp2_with fail
        go_meet
        case rel => exact ⟨b9, b10, rfl, rfl, Z9, Z10, D9_10, GG9, KV50⟩
       exact AllReadyH.nil
      exact AllReadyH.nil
     exact AllReadyH.nil
    refine AllReadyH.cons (o := oTimesP4) rfl (fun K hK => ?_) ?_
    ·
     refine step_runTo (w' := V46.alloc (.cells (bA 0) 61)) (by rfl) (.pointer (some ⟨V46.heap.size, 0, none⟩)) (hrunAlloc32 rfl V46) ?_
     obtain ⟨b9, hb9⟩ : ∃ g, g = V46.heap.size := ⟨_, rfl⟩
     have Z9 : Hid ((V46.alloc (.cells (bA 0) 61)).heap[b9]? = some (.cells (bA 0) 61 (0, 0))) := by rw [hb9]; exact heap_alloc_new _ _
     have D9_10 : Hid (b9 ≠ b10) := by have := lt_row Z10.out; rw [hb9]; show _ ≠ _; omega
     have D10_9 : Hid (b10 ≠ b9) := fun e => D9_10.out e.symm
     have Z10 : Hid ((V46.alloc (.cells (bA 0) 61)).heap[b10]? = some (.cells (bA 0) 61 (0, 0))) := (heap_alloc_old _ _ (lt_row Z10.out)).trans Z10.out
     have KV51 := kAl KV46 (.cells (bA 0) 61)
     have GG9 : Hid (W2.heap.size ≤ b9) := by rw [hb9]; exact KV46.out.size
     rw [← hb9]
     obtain ⟨V51, hV51⟩ : ∃ V, V = V46.alloc (.cells (bA 0) 61) := ⟨_, rfl⟩
     rw [← hV51] at Z10 Z9 KV51 ⊢
     clear hV51 hb9
     refine hK.out _ _ ?_ (fun hHeld => ?_)
     · exact ⟨range_below R7r.out KV51.out l7, range_below R8r.out KV51.out l8⟩
     clear hK K
     try simp only [zaP, zsT, zsZ, zsS]
     refine wpAnyH_ready (rs := [3]) (by kernel_rfl) (by simp) ?_
     refine AllReadyH.cons (o := ⟨some 22, .call ⟨.value (.func 46), #[.tmp 21], #[60]⟩, 61, "scalar.go:49", #[zeD 2, zeC 1], none⟩) rfl (fun K hK => ?_) ?_
     ·
      refine step_callTo (by rfl) _ _ (hrunBytes _ rfl (.agg (num4A Y)) rfl V51) _ _ (bytesN Y V51) (fun V52 HBx => ?_)
      have KV52 := kTr KV51 HBx
      have Z10 := hide (row_keep' Z10.out HBx)
      have Z9 := hide (row_keep' Z9.out HBx)
      clear HBx
      refine hK.out _ _ ?_ (fun hHeld => ?_)
      · exact ⟨range_below R7r.out KV52.out l7, range_below R8r.out KV52.out l8⟩
      clear hK K
      try simp only [zaP, zsT, zsZ, zsS]
      refine wpAnyH_ready (rs := [6]) (by kernel_rfl) (by simp) ?_
      refine AllReadyH.cons (o := oTimesP6) rfl (fun K hK => ?_) ?_
      ·
       refine step_store_row _ (by rfl) 61 (.tmp 9) (.tmp 20) (by rfl) (b9) (bA X) (by rfl) (by rfl) 61 _ Z9.out (bA_size' _) (bA_old _ _) (bA_all _) ?_
       rw [put_none']
       obtain ⟨V53, hV53⟩ : ∃ V, V = World.setRow V52 b9 (bA X) := ⟨_, rfl⟩
       have Z9 : Hid (V53.heap[b9]? = some (.cells (bA X) 61 (0, 0))) := by rw [hV53]; exact setRow_heap _ _ _ _ _ _ Z9.out
       have Z10 : Hid (V53.heap[b10]? = some (.cells (bA 0) 61 (0, 0))) := by rw [hV53]; exact (setRow_other _ _ _ _ D10_9.out).trans Z10.out
       have KV53 : Hid (Below W2.heap.size W2 V53) := by rw [hV53]; exact below_setRow KV52.out GG9.out _
       rw [← hV53]
       clear hV53
       refine hK.out _ _ ?_ (fun hHeld => ?_)
       · exact ⟨range_below R7r.out KV53.out l7, range_below R8r.out KV53.out l8⟩
       clear hK K
       try simp only [zaP, zsT, zsZ, zsS]
       refine wpAnyH_ready (rs := [7]) (by kernel_rfl) (by simp) ?_
       refine AllReadyH.cons (o := oTimesP7) rfl (fun K hK => ?_) ?_
       ·
        refine step_store_row _ (by rfl) 61 (.tmp 10) (.tmp 22) (by rfl) (b10) (bA Y) (by rfl) (by rfl) 61 _ Z10.out (bA_size' _) (bA_old _ _) (bA_all _) ?_
        rw [put_none']
        obtain ⟨V54, hV54⟩ : ∃ V, V = World.setRow V53 b10 (bA Y) := ⟨_, rfl⟩
        have Z10 : Hid (V54.heap[b10]? = some (.cells (bA Y) 61 (0, 0))) := by rw [hV54]; exact setRow_heap _ _ _ _ _ _ Z10.out
        have Z9 : Hid (V54.heap[b9]? = some (.cells (bA X) 61 (0, 0))) := by rw [hV54]; exact (setRow_other _ _ _ _ D9_10.out).trans Z9.out
        have KV54 : Hid (Below W2.heap.size W2 V54) := by rw [hV54]; exact below_setRow KV53.out GG10.out _
        rw [← hV54]
        clear hV54
        refine hK.out _ _ ?_ (fun hHeld => ?_)
        · exact ⟨range_below R7r.out KV54.out l7, range_below R8r.out KV54.out l8⟩
        clear hK K
        try simp only [zaP, zsT, zsZ, zsS]
        refine wpAnyH_done (by kernel_rfl) ?_ _
        go_wp2_with fail
        go_meet
        case rel => exact ⟨b9, b10, rfl, rfl, Z9, Z10, D9_10, GG9, KV54⟩
       exact AllReadyH.nil
      exact AllReadyH.nil
     exact AllReadyH.nil
    exact AllReadyH.nil
   refine AllReadyH.cons (o := oTimesP4) rfl (fun K hK => ?_) ?_
   ·
    refine step_runTo (w' := V45.alloc (.cells (bA 0) 61)) (by rfl) (.pointer (some ⟨V45.heap.size, 0, none⟩)) (hrunAlloc32 rfl V45) ?_
    obtain ⟨b9, hb9⟩ : ∃ g, g = V45.heap.size := ⟨_, rfl⟩
    have Z9 : Hid ((V45.alloc (.cells (bA 0) 61)).heap[b9]? = some (.cells (bA 0) 61 (0, 0))) := by rw [hb9]; exact heap_alloc_new _ _
    have D9_10 : Hid (b9 ≠ b10) := by have := lt_row Z10.out; rw [hb9]; show _ ≠ _; omega
    have D10_9 : Hid (b10 ≠ b9) := fun e => D9_10.out e.symm
    have Z10 : Hid ((V45.alloc (.cells (bA 0) 61)).heap[b10]? = some (.cells (bA 0) 61 (0, 0))) := (heap_alloc_old _ _ (lt_row Z10.out)).trans Z10.out
    have KV55 := kAl KV45 (.cells (bA 0) 61)
    have GG9 : Hid (W2.heap.size ≤ b9) := by rw [hb9]; exact KV45.out.size
    rw [← hb9]
    obtain ⟨V55, hV55⟩ : ∃ V, V = V45.alloc (.cells (bA 0) 61) := ⟨_, rfl⟩
    rw [← hV55] at Z10 Z9 KV55 ⊢
    clear hV55 hb9
    refine hK.out _ _ ?_ (fun hHeld => ?_)
    · exact ⟨range_below R7r.out KV55.out l7, range_below R8r.out KV55.out l8⟩
    clear hK K
    try simp only [zaP, zsT, zsZ, zsS]
    refine wpAnyH_ready (rs := [1]) (by kernel_rfl) (by simp) ?_
    refine AllReadyH.cons (o := ⟨some 20, .call ⟨.value (.func 46), #[.tmp 19], #[60]⟩, 61, "scalar.go:49", #[zeD 0], none⟩) rfl (fun K hK => ?_) ?_
    ·
     refine step_callTo (by rfl) _ _ (hrunBytes _ rfl (.agg (num4A X)) rfl V55) _ _ (bytesN X V55) (fun V56 HBx => ?_)
     have KV56 := kTr KV55 HBx
     have Z10 := hide (row_keep' Z10.out HBx)
     have Z9 := hide (row_keep' Z9.out HBx)
     clear HBx
     refine hK.out _ _ ?_ (fun hHeld => ?_)
     · exact ⟨range_below R7r.out KV56.out l7, range_below R8r.out KV56.out l8⟩
     clear hK K
     try simp only [zaP, zsT, zsZ, zsS]
     refine wpAnyH_ready (rs := [3]) (by kernel_rfl) (by simp) ?_
     refine AllReadyH.cons (o := ⟨some 22, .call ⟨.value (.func 46), #[.tmp 21], #[60]⟩, 61, "scalar.go:49", #[zeD 2, zeC 1], none⟩) rfl (fun K hK => ?_) ?_
     ·
      refine step_callTo (by rfl) _ _ (hrunBytes _ rfl (.agg (num4A Y)) rfl V56) _ _ (bytesN Y V56) (fun V57 HBx => ?_)
      have KV57 := kTr KV56 HBx
      have Z10 := hide (row_keep' Z10.out HBx)
      have Z9 := hide (row_keep' Z9.out HBx)
      clear HBx
      refine hK.out _ _ ?_ (fun hHeld => ?_)
      · exact ⟨range_below R7r.out KV57.out l7, range_below R8r.out KV57.out l8⟩
      clear hK K
      try simp only [zaP, zsT, zsZ, zsS]
      refine wpAnyH_ready (rs := [6]) (by kernel_rfl) (by simp) ?_
      refine AllReadyH.cons (o := oTimesP6) rfl (fun K hK => ?_) ?_
      ·
       refine step_store_row _ (by rfl) 61 (.tmp 9) (.tmp 20) (by rfl) (b9) (bA X) (by rfl) (by rfl) 61 _ Z9.out (bA_size' _) (bA_old _ _) (bA_all _) ?_
       rw [put_none']
       obtain ⟨V58, hV58⟩ : ∃ V, V = World.setRow V57 b9 (bA X) := ⟨_, rfl⟩
       have Z9 : Hid (V58.heap[b9]? = some (.cells (bA X) 61 (0, 0))) := by rw [hV58]; exact setRow_heap _ _ _ _ _ _ Z9.out
       have Z10 : Hid (V58.heap[b10]? = some (.cells (bA 0) 61 (0, 0))) := by rw [hV58]; exact (setRow_other _ _ _ _ D10_9.out).trans Z10.out
       have KV58 : Hid (Below W2.heap.size W2 V58) := by rw [hV58]; exact below_setRow KV57.out GG9.out _
       rw [← hV58]
       clear hV58
       refine hK.out _ _ ?_ (fun hHeld => ?_)
       · exact ⟨range_below R7r.out KV58.out l7, range_below R8r.out KV58.out l8⟩
       clear hK K
       try simp only [zaP, zsT, zsZ, zsS]
       refine wpAnyH_ready (rs := [7]) (by kernel_rfl) (by simp) ?_
       refine AllReadyH.cons (o := oTimesP7) rfl (fun K hK => ?_) ?_
       ·
        refine step_store_row _ (by rfl) 61 (.tmp 10) (.tmp 22) (by rfl) (b10) (bA Y) (by rfl) (by rfl) 61 _ Z10.out (bA_size' _) (bA_old _ _) (bA_all _) ?_
        rw [put_none']
        obtain ⟨V59, hV59⟩ : ∃ V, V = World.setRow V58 b10 (bA Y) := ⟨_, rfl⟩
        have Z10 : Hid (V59.heap[b10]? = some (.cells (bA Y) 61 (0, 0))) := by rw [hV59]; exact setRow_heap _ _ _ _ _ _ Z10.out
        have Z9 : Hid (V59.heap[b9]? = some (.cells (bA X) 61 (0, 0))) := by rw [hV59]; exact (setRow_other _ _ _ _ D9_10.out).trans Z9.out
        have KV59 : Hid (Below W2.heap.size W2 V59) := by rw [hV59]; exact below_setRow KV58.out GG10.out _
        rw [← hV59]
        clear hV59
        refine hK.out _ _ ?_ (fun hHeld => ?_)
        · exact ⟨range_below R7r.out KV59.out l7, range_below R8r.out KV59.out l8⟩
        clear hK K
        try simp only [zaP, zsT, zsZ, zsS]
        refine wpAnyH_done (by kernel_rfl) ?_ _
        go_wp2_with fail
        go_meet
        case rel => exact ⟨b9, b10, rfl, rfl, Z9, Z10, D9_10, GG9, KV59⟩
       exact AllReadyH.nil
      exact AllReadyH.nil
     exact AllReadyH.nil
    exact AllReadyH.nil
   exact AllReadyH.nil
  exact AllReadyH.nil
 case rest =>
 obtain ⟨b9, b10, rfl, rfl, R9, R10, D9, G9, K3⟩ := hcut
 obtain ⟨W3, hW⟩ : ∃ W, W = wc := ⟨_, rfl⟩
 subst hW
 have R6 := hide (row_keep' R6.out K3.out)
 have BL3 : Hid (Below w.heap.size w W3) := BL2.out.trans (K3.out.mono BL2.out.size)
 clear BL2 K3 R7 R8 R7r R8r l7 l8
 have hs1 := slice64w
 have hs2 := slice32_all
 have hs3 := slice64_from
 go_upto_region 4 with fail
 obtain ⟨g, hg⟩ : ∃ g, g = W3.heap.size := ⟨_, rfl⟩
 generalize hW4 : World.alloc _ _ = W4
 have R11 : Hid (W4.heap[g]? = some (.cells ((List.replicate 64 (0 : UInt8)).map cv).toArray 102 (0, 0))) := by rw [← hW4, hg, z64_def]; exact heap_alloc_new _ _
 have R9 : Hid (W4.heap[b9]? = some (.cells ((leB X 32).map cv).toArray 61 (0, 0))) := by rw [← hW4, ← bA_def]; exact (heap_alloc_old _ _ (lt_row R9.out)).trans R9.out
 have l10 := lt_row R10.out
 have l6 := lt_row R6.out
 have R10 : Hid (W4.heap[b10]? = some (.cells ((leB Y 32).map cv).toArray 61 (0, 0))) := by rw [← hW4, ← bA_def]; exact (heap_alloc_old _ _ (lt_row R10.out)).trans R10.out
 have R6 : Hid (W4.heap[w.heap.size + 3]? = some (.cells (num4A 0) 60 (0, 0))) := by rw [← hW4]; exact (heap_alloc_old _ _ (lt_row R6.out)).trans R6.out
 have BL4 : Hid (Below w.heap.size w W4) := by rw [← hW4]; exact BL3.out.alloc BL3.out.size _
 have hgw : w.heap.size ≤ g := by rw [hg]; exact BL3.out.size
 have n10 : b10 ≠ g := by omega
 have n6 : w.heap.size + 3 ≠ g := by omega
 rw [← hg]
 clear hW4 hg BL3 l10 l6
 refine wp_region_held_drew (S := fun _ => True) (by kernel_rfl) trivial (fun hHeld => ?_)
 have R10 : Hid (W4.drew.heap[b10]? = some (.cells (((leB Y 32).map cv).toArray) 61 (0, 0))) := R10
 have R6 : Hid (W4.drew.heap[w.heap.size + 3]? = some (.cells (num4A 0) 60 (0, 0))) := R6
 have BL4 : Hid (Below w.heap.size w W4.drew) := BL4.out.drew
 have R11 : Hid (W4.drew.heap[g]? = some (.cells (((List.replicate 64 (0 : UInt8)).map cv).toArray) 102 (0, 0))) := R11
 have R9 : Hid (W4.drew.heap[b9]? = some (.cells ((leB X 32).map cv).toArray 61 (0, 0))) := R9
 obtain ⟨DV6, hDV6⟩ : ∃ V, V = W4.drew := ⟨_, rfl⟩
 rw [← hDV6] at R9 R10 R6 BL4 R11 ⊢
 clear hDV6
 refine wpAnyH_take (i := 0) (oi := ⟨some 23, .slice 102 (.tmp 11) none none none, 89, "scalar.go:51", #[], none⟩) (v := .slice (some ⟨g, 0, none⟩) 64 64) rfl (by kernel_rfl) (by kernel_rfl) (by kernel_rfl) (fun _ _ _ h => h) (Or.inl ⟨by rfl, fun w _ => by go_simp⟩) hHeld ?_
 simp only [zaP, zsT, zsZ, zsS]
 refine wpAnyH_take (i := 1) (oi := ⟨some 24, .slice 61 (.tmp 9) none none none, 89, "scalar.go:51", #[], none⟩) (v := .slice (some ⟨b9, 0, none⟩) 32 32) rfl (by kernel_rfl) (by kernel_rfl) (by kernel_rfl) (fun _ _ _ h => h) (Or.inl ⟨by rfl, fun w _ => by go_simp⟩) hHeld ?_
 simp only [zaP, zsT, zsZ, zsS]
 refine wpAnyH_ready (rs := [2]) (by kernel_rfl) (by simp) ?_
 refine AllReadyH.cons (o := ⟨some 25, .call ⟨.builtin .copy, #[.tmp 23, .tmp 24], #[89, 89]⟩, 3, "scalar.go:51", #[zeD 0, zeD 1], none⟩) rfl (fun K hK => ?_) AllReadyH.nil
 refine step_runTo (by rfl) (.int .i64 32) (hrunCopy _ _ rfl g 0 b9 64 (by decide) rfl rfl DV6 (leB X 32) (List.replicate 64 0) (leB_length _ _) (by simp) _ _ R9.out R11.out) ?_
 obtain ⟨V6, hV6⟩ : ∃ V, V = World.setRow DV6 g ((splice (List.replicate 64 (0 : UInt8)) 0 (leB X 32)).map cv).toArray := ⟨_, rfl⟩
 have R10 : Hid (V6.heap[b10]? = some (.cells (((leB Y 32).map cv).toArray) 61 (0, 0))) := by rw [hV6]; exact (setRow_other _ _ _ _ n10).trans R10.out
 have R6 : Hid (V6.heap[w.heap.size + 3]? = some (.cells (num4A 0) 60 (0, 0))) := by rw [hV6]; exact (setRow_other _ _ _ _ n6).trans R6.out
 have BL4 : Hid (Below w.heap.size w V6) := by rw [hV6]; exact below_setRow BL4.out hgw _
 have R11 : Hid (V6.heap[g]? = some (.cells (((splice (List.replicate 64 (0 : UInt8)) 0 (leB X 32)).map cv).toArray) 102 (0, 0))) := by rw [hV6]; exact setRow_heap _ _ _ _ _ _ R11.out
 rw [← hV6]
 clear hV6
 refine hK.out _ _ trivial (fun hHeld => ?_)
 clear hK K hHeld
 try simp only [zaP, zsT, zsZ, zsS]
 refine wpAnyH_done (by kernel_rfl) ?_ _
 rw [sp1 _ (leB_length _ _)] at R11
 go_upto_region 5 with fail
 refine wp_region_held_drew (S := fun _ => True) (by kernel_rfl) trivial (fun hHeld => ?_)
 have R10 : Hid (V6.drew.heap[b10]? = some (.cells (((leB Y 32).map cv).toArray) 61 (0, 0))) := R10
 have R6 : Hid (V6.drew.heap[w.heap.size + 3]? = some (.cells (num4A 0) 60 (0, 0))) := R6
 have BL4 : Hid (Below w.heap.size w V6.drew) := BL4.out.drew
 have R11 : Hid (V6.drew.heap[g]? = some (.cells (((leB X 32 ++ List.replicate 32 (0 : UInt8)).map cv).toArray) 102 (0, 0))) := R11
 obtain ⟨DV7, hDV7⟩ : ∃ V, V = V6.drew := ⟨_, rfl⟩
 rw [← hDV7] at R10 R6 BL4 R11 ⊢
 clear hDV7
 refine wpAnyH_take (i := 0) (oi := ⟨some 26, .slice 102 (.tmp 11) (some (.const (.int .i64 32))) none none, 89, "scalar.go:52", #[], none⟩) (v := .slice (some ⟨g, 32, none⟩) 32 32) rfl (by kernel_rfl) (by kernel_rfl) (by kernel_rfl) (fun _ _ _ h => h) (Or.inl ⟨by rfl, fun w _ => by go_simp⟩) hHeld ?_
 simp only [zaP, zsT, zsZ, zsS]
 refine wpAnyH_take (i := 1) (oi := ⟨some 27, .slice 61 (.tmp 10) none none none, 89, "scalar.go:52", #[], none⟩) (v := .slice (some ⟨b10, 0, none⟩) 32 32) rfl (by kernel_rfl) (by kernel_rfl) (by kernel_rfl) (fun _ _ _ h => h) (Or.inl ⟨by rfl, fun w _ => by go_simp⟩) hHeld ?_
 simp only [zaP, zsT, zsZ, zsS]
 refine wpAnyH_ready (rs := [2]) (by kernel_rfl) (by simp) ?_
 refine AllReadyH.cons (o := ⟨some 28, .call ⟨.builtin .copy, #[.tmp 26, .tmp 27], #[89, 89]⟩, 3, "scalar.go:52", #[zeD 0, zeD 1], none⟩) rfl (fun K hK => ?_) AllReadyH.nil
 refine step_runTo (by rfl) (.int .i64 32) (hrunCopy _ _ rfl g 32 b10 32 (by decide) rfl rfl DV7 (leB Y 32) (leB X 32 ++ List.replicate 32 0) (leB_length _ _) (by simp [leB_length]) _ _ R10.out R11.out) ?_
 obtain ⟨V7, hV7⟩ : ∃ V, V = World.setRow DV7 g ((splice (leB X 32 ++ List.replicate 32 (0 : UInt8)) 32 (leB Y 32)).map cv).toArray := ⟨_, rfl⟩
 have R10 : Hid (V7.heap[b10]? = some (.cells (((leB Y 32).map cv).toArray) 61 (0, 0))) := by rw [hV7]; exact (setRow_other _ _ _ _ n10).trans R10.out
 have R6 : Hid (V7.heap[w.heap.size + 3]? = some (.cells (num4A 0) 60 (0, 0))) := by rw [hV7]; exact (setRow_other _ _ _ _ n6).trans R6.out
 have BL4 : Hid (Below w.heap.size w V7) := by rw [hV7]; exact below_setRow BL4.out hgw _
 have R11 : Hid (V7.heap[g]? = some (.cells (((splice (leB X 32 ++ List.replicate 32 (0 : UInt8)) 32 (leB Y 32)).map cv).toArray) 102 (0, 0))) := by rw [hV7]; exact setRow_heap _ _ _ _ _ _ R11.out
 rw [← hV7]
 clear hV7
 refine hK.out _ _ trivial (fun hHeld => ?_)
 clear hK K hHeld
 try simp only [zaP, zsT, zsZ, zsS]
 refine wpAnyH_done (by kernel_rfl) ?_ _
 rw [sp2 _ _ (leB_length _ _) (leB_length _ _)] at R11
 have hlen : (leB X 32 ++ leB Y 32).length = 64 := by simp [leB_length]
 obtain ⟨L, HL⟩ : ∃ L, Hid (L = leB X 32 ++ leB Y 32) := ⟨_, hide rfl⟩
 rw [← HL.out] at R11 hlen
 obtain ⟨M, HM⟩ : ∃ M, Hid (M = L.map cv) := ⟨_, hide rfl⟩
 rw [← HM.out] at R11
 have HSz : Hid ((Tryz.prog.info? 102).map (·.size) = some M.toArray.size) := by show _ = _; rw [HM.out, size64]; simp [hlen]
 have O6 := hide (HO.out.below BL4.out HO.out.lt)
 go_wp2_with (first
  | (refine wpList_load_row (by rfl) 102 (.tmp 11) (by rfl) g (by rfl) 102 M.toArray (0, 0) _ R11.out under64 rfl HSz.out ?_))
 refine (reduce_list L hlen M HM.out V7 O6.out).mono ?_
 rintro e W8 ⟨rfl, hB⟩
 have R6 := hide (row_keep' R6.out hB)
 have BL8 := kTr BL4 hB
 clear hB R11 BL4
 obtain ⟨N, HN⟩ : ∃ n, Hid (n = valLE L % Lord) := ⟨_, hide rfl⟩
 rw [← HN.out]
 go_wp2_with (first | (refine wpList_store_row (by rfl) 60 (.tmp 6) (.tmp 30) (by rfl) (w.heap.size + 3) (num4A N) (by rfl) (by rfl) 60 _ R6.out (size4W _) (n4W _ _) (num4A_all _) ?_))
 refine bodyPost_ret (v := .agg (num4A N)) (results_cell_row Tryz.results72 _ _ (w.heap.size + 3) 60 _ (0, 0) _ (by rfl) (setRow_heap _ _ _ _ _ _ R6.out) under4 rfl (size4W _)) rfl ⟨?_, below_setRow BL8.out (by omega) _⟩
 rw [HN.out, HL.out, valLE_two X Y HX.out HY.out, EX.out, EY.out, Nat.add_comm, Nat.div_add_mod]
end
end Go.Proofs.YtccgfabojbjmjaaGreatDoor
