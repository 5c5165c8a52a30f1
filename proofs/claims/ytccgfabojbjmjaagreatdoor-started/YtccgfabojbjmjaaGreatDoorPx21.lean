import Derived.Test.YtccgfabojbjmjaaGreatDoorPx20
namespace Go.Proofs.YtccgfabojbjmjaaGreatDoor
open Go.RowKit
abbrev oPtAdd11 : Oper := ⟨some 5, .alloc 80, 0, "point.go:75", #[], none⟩
abbrev oPtAdd12 : Oper := ⟨none, .store 80 (.tmp 5) (.tmp 19), 0, "point.go:75", #[zeD 11, zeD 10, zeC 10, zeP 0, zeP 1, zeP 2, zeP 3, zeP 4, zeP 5, zeP 6, zeP 7, zeP 8, zeP 9, zeP 10, zeP 11], none⟩
abbrev oPtAdd24 : Oper := ⟨some 6, .alloc 80, 0, "point.go:76", #[], none⟩
abbrev oPtAdd25 : Oper := ⟨none, .store 80 (.tmp 6) (.tmp 30), 0, "point.go:76", #[zeD 11, zeD 10, zeC 10, zeP 0, zeP 1, zeP 2, zeP 3, zeP 4, zeP 5, zeP 6, zeP 7, zeP 8, zeP 9, zeP 10, zeP 11], none⟩
abbrev oPtAdd33 : Oper := ⟨some 7, .alloc 80, 0, "point.go:77", #[], none⟩
abbrev oPtAdd34 : Oper := ⟨none, .store 80 (.tmp 7) (.tmp 37), 0, "point.go:77", #[zeD 7, zeD 6, zeC 6, zeP 0, zeP 1, zeP 2, zeP 3, zeP 4, zeP 5, zeP 6, zeP 7], none⟩
section
attribute [local irreducible] num4A nL pA
set_option maxRecDepth 100000 in
set_option maxHeartbeats 4000000 in
theorem ptAddA (p q : Pt) (hp : p.Ok) (hq : q.Ok) (w : World) (TT : TypeId) (frr : Nat × Nat) (hG : w.heap[5]? = some (.cells (num4A tdN) TT frr)) :
  Calls Tryz.prog 79 #[.agg (pA p), .agg (pA q)] w fun e w' => e = .returned (.agg (pA (addP p q))) ∧ Below w.heap.size w w' := by
 have hz := zeroE
 have hzp := zeroP
 have Hp := hide hp
 have Hq := hide hq
 obtain ⟨td, Etd⟩ : ∃ t, Hid (t = tdN) := ⟨_, rfl⟩
 have Htd : Hid (td < P) := by rw [Etd.out]; exact tdN_lt
 rw [← Etd.out] at hG
 have HG := hide hG
 have lG := lt_row hG
 clear hp hq hG
 go_enter Tryz.func79, Tryz.ntmps79
 go_wp2_with fail
 obtain ⟨W0, hW0⟩ : ∃ W, W = ((w.alloc (.cells (pA p) 82)).alloc (.cells (pA q) 82)).alloc (.cells (pA p0) 82) := ⟨_, rfl⟩
 have RP : Hid (W0.heap[w.heap.size]? = some (.cells (pA p) 82 (0, 0))) := by rw [hW0]; exact heap3_0 _ _ _ _
 have RQ : Hid (W0.heap[w.heap.size + 1]? = some (.cells (pA q) 82 (0, 0))) := by rw [hW0]; exact heap3_1 _ _ _ _
 have RZ : Hid (W0.heap[w.heap.size + 2]? = some (.cells (pA p0) 82 (0, 0))) := by rw [hW0]; exact heap3_2 _ _ _ _
 have BL : Hid (Below w.heap.size w W0) := by rw [hW0]; show Below _ _ _; go_grown
 have RG : Hid (W0.heap[5]? = some (.cells (num4A td) TT frr)) := row_below HG.out BL.out lG
 rw [← hW0]
 clear hW0 HG
 go_cut [5] from 9 to 19 (fun s wx => ∃ g, s = .pointer (some ⟨g, 0, none⟩) ∧ Hid (W0.heap.size ≤ g) ∧ Hid (wx.heap[g]? = some (.cells (num4A (mP (sP p.y p.x) (sP q.y q.x))) 80 (0, 0))) ∧ Hid (Below W0.heap.size W0 wx))
 case first =>
  refine wp_region_held_drew (S := fun w' => w'.rangeAt (w.heap.size) 4 (nL p.y) ∧ w'.rangeAt (w.heap.size) 0 (nL p.x) ∧ w'.rangeAt (w.heap.size + 1) 4 (nL q.y) ∧ w'.rangeAt (w.heap.size + 1) 0 (nL q.x)) (by kernel_rfl) (by exact ⟨(rangeP RP.out).2.1, (rangeP RP.out).1, (rangeP RQ.out).2.1, (rangeP RQ.out).1⟩) (fun hHeld => ?_)
  obtain ⟨V1, hV1⟩ : ∃ V, V = W0.drew := ⟨_, rfl⟩
  rw [← hV1] at hHeld ⊢
  have KV1 : Hid (Below W0.heap.size W0 V1) := by rw [hV1]; exact (Below.refl _ _).drew
  clear hV1
  refine wpAnyH_take (i := 0) (oi := ⟨some 9, .fieldAddr 82 (.tmp 2) 1, 0, "point.go:75", #[], none⟩) (v := .pointer (some ⟨w.heap.size, 4, none⟩)) rfl (by kernel_rfl) (by kernel_rfl) (by kernel_rfl) (fun _ _ _ h => h) (Or.inl ⟨by rfl, fun w _ => by go_simp⟩) hHeld ?_
  simp only [zaP, zsT, zsZ, zsS]
  refine wpAnyH_take (i := 1) (oi := ⟨some 10, .load 80 (.tmp 9), 80, "point.go:75", #[zeD 0], none⟩) (v := .agg (num4A p.y)) rfl (by kernel_rfl) (by kernel_rfl) (by kernel_rfl) (fun _ _ _ h => h) (yldN (by rfl) _ rfl (w.heap.size) 4 p.y rfl (fun w h => h.1)) hHeld ?_
  simp only [zaP, zsT, zsZ, zsS]
  refine wpAnyH_take (i := 2) (oi := ⟨some 11, .fieldAddr 82 (.tmp 2) 0, 0, "point.go:75", #[], none⟩) (v := .pointer (some ⟨w.heap.size, 0, none⟩)) rfl (by kernel_rfl) (by kernel_rfl) (by kernel_rfl) (fun _ _ _ h => h) (Or.inl ⟨by rfl, fun w _ => by go_simp⟩) hHeld ?_
  simp only [zaP, zsT, zsZ, zsS]
  refine wpAnyH_take (i := 3) (oi := ⟨some 12, .load 80 (.tmp 11), 80, "point.go:75", #[zeD 2], none⟩) (v := .agg (num4A p.x)) rfl (by kernel_rfl) (by kernel_rfl) (by kernel_rfl) (fun _ _ _ h => h) (yldN (by rfl) _ rfl (w.heap.size) 0 p.x rfl (fun w h => h.2.1)) hHeld ?_
  simp only [zaP, zsT, zsZ, zsS]
  refine wpAnyH_take (i := 5) (oi := ⟨some 14, .fieldAddr 82 (.tmp 3) 1, 0, "point.go:75", #[], none⟩) (v := .pointer (some ⟨w.heap.size + 1, 4, none⟩)) rfl (by kernel_rfl) (by kernel_rfl) (by kernel_rfl) (fun _ _ _ h => h) (Or.inl ⟨by rfl, fun w _ => by go_simp⟩) hHeld ?_
  simp only [zaP, zsT, zsZ, zsS]
  refine wpAnyH_take (i := 6) (oi := ⟨some 15, .load 80 (.tmp 14), 80, "point.go:75", #[zeD 5], none⟩) (v := .agg (num4A q.y)) rfl (by kernel_rfl) (by kernel_rfl) (by kernel_rfl) (fun _ _ _ h => h) (yldN (by rfl) _ rfl (w.heap.size + 1) 4 q.y rfl (fun w h => h.2.2.1)) hHeld ?_
  simp only [zaP, zsT, zsZ, zsS]
  refine wpAnyH_take (i := 7) (oi := ⟨some 16, .fieldAddr 82 (.tmp 3) 0, 0, "point.go:75", #[], none⟩) (v := .pointer (some ⟨w.heap.size + 1, 0, none⟩)) rfl (by kernel_rfl) (by kernel_rfl) (by kernel_rfl) (fun _ _ _ h => h) (Or.inl ⟨by rfl, fun w _ => by go_simp⟩) hHeld ?_
  simp only [zaP, zsT, zsZ, zsS]
  refine wpAnyH_take (i := 8) (oi := ⟨some 17, .load 80 (.tmp 16), 80, "point.go:75", #[zeD 7], none⟩) (v := .agg (num4A q.x)) rfl (by kernel_rfl) (by kernel_rfl) (by kernel_rfl) (fun _ _ _ h => h) (yldN (by rfl) _ rfl (w.heap.size + 1) 0 q.x rfl (fun w h => h.2.2.2)) hHeld ?_
  simp only [zaP, zsT, zsZ, zsS]
  refine wpAnyH_ready (rs := [4, 11]) (by kernel_rfl) (by simp) ?_
  refine AllReadyH.cons (o := ⟨some 13, .call ⟨.value (.func 119), #[.tmp 10, .tmp 12], #[80, 80]⟩, 80, "point.go:75", #[zeD 1, zeD 3], none⟩) rfl (fun K hK => ?_) ?_
  ·
   refine step_callTo (by rfl) _ _ (hrunMinus _ _ rfl (.agg (num4A p.y)) (.agg (num4A p.x)) rfl rfl V1) _ _ (feMinus p.y p.x Hp.out.y Hp.out.x V1) (fun V2 HBx => ?_)
   have KV2 := kTr KV1 HBx
   clear HBx
   refine hK.out _ _ ?_ (fun hHeld => ?_)
   · exact ⟨kPy RP KV2, kPx RP KV2, kPy RQ KV2, kPx RQ KV2⟩
   clear hK K
   try simp only [zaP, zsT, zsZ, zsS]
   refine wpAnyH_ready (rs := [9, 11]) (by kernel_rfl) (by simp) ?_
   refine AllReadyH.cons (o := ⟨some 18, .call ⟨.value (.func 119), #[.tmp 15, .tmp 17], #[80, 80]⟩, 80, "point.go:75", #[zeD 6, zeD 8, zeC 4], none⟩) rfl (fun K hK => ?_) ?_
   ·
    refine step_callTo (by rfl) _ _ (hrunMinus _ _ rfl (.agg (num4A q.y)) (.agg (num4A q.x)) rfl rfl V2) _ _ (feMinus q.y q.x Hq.out.y Hq.out.x V2) (fun V3 HBx => ?_)
    have KV3 := kTr KV2 HBx
    clear HBx
    refine hK.out _ _ ?_ (fun hHeld => ?_)
    · exact ⟨kPy RP KV3, kPx RP KV3, kPy RQ KV3, kPx RQ KV3⟩
    clear hK K
    try simp only [zaP, zsT, zsZ, zsS]
    refine wpAnyH_ready (rs := [10, 11]) (by kernel_rfl) (by simp) ?_
    refine AllReadyH.cons (o := ⟨some 19, .call ⟨.value (.func 93), #[.tmp 13, .tmp 18], #[80, 80]⟩, 80, "point.go:75", #[zeD 4, zeD 9, zeC 9], none⟩) rfl (fun K hK => ?_) ?_
    ·
     refine step_callTo (by rfl) _ _ (hrunTimes _ _ rfl (.agg (num4A (sP p.y p.x))) (.agg (num4A (sP q.y q.x))) rfl rfl V3) _ _ (feTimes (sP p.y p.x) (sP q.y q.x) (sP_lt _ _) (sP_lt _ _) V3) (fun V4 HBx => ?_)
     have KV4 := kTr KV3 HBx
     clear HBx
     refine hK.out _ _ ?_ (fun hHeld => ?_)
     · exact ⟨kPy RP KV4, kPx RP KV4, kPy RQ KV4, kPx RQ KV4⟩
     clear hK K
     try simp only [zaP, zsT, zsZ, zsS]
     refine wpAnyH_ready (rs := [11]) (by kernel_rfl) (by simp) ?_
     refine AllReadyH.cons (o := oPtAdd11) rfl (fun K hK => ?_) ?_
     ·
      refine step_runTo (w' := V4.alloc (.cells (num4A 0) 80)) (by rfl) (.pointer (some ⟨V4.heap.size, 0, none⟩)) (hrunAllocE rfl V4) ?_
      obtain ⟨g5, hg5⟩ : ∃ g, g = V4.heap.size := ⟨_, rfl⟩
      have ZN : Hid ((V4.alloc (.cells (num4A 0) 80)).heap[g5]? = some (.cells (num4A 0) 80 (0, 0))) := by rw [hg5]; exact heap_alloc_new _ _
      have KV5 := kAl KV4 (.cells (num4A 0) 80)
      have GG : Hid (W0.heap.size ≤ g5) := by rw [hg5]; exact KV4.out.size
      rw [← hg5]
      obtain ⟨V5, hV5⟩ : ∃ V, V = V4.alloc (.cells (num4A 0) 80) := ⟨_, rfl⟩
      rw [← hV5] at ZN KV5 ⊢
      clear hV5 hg5
      refine hK.out _ _ ?_ (fun hHeld => ?_)
      · exact ⟨kPy RP KV5, kPx RP KV5, kPy RQ KV5, kPx RQ KV5⟩
      clear hK K
      try simp only [zaP, zsT, zsZ, zsS]
      refine wpAnyH_ready (rs := [12]) (by kernel_rfl) (by simp) ?_
      refine AllReadyH.cons (o := oPtAdd12) rfl (fun K hK => ?_) ?_
      ·
       refine step_store_row _ (by rfl) 80 (.tmp 5) (.tmp 19) (by rfl) (g5) (num4A (mP (sP p.y p.x) (sP q.y q.x))) (by rfl) (by rfl) 80 _ ZN.out (feSize _) (n4_old _ _) (num4A_all _) ?_
       rw [put_none']
       refine hK.out _ _ ?_ (fun hHeld => ?_)
       · exact ⟨range_set (kPy RP KV5) (Nat.ne_of_lt (Nat.lt_of_lt_of_le (lt_row RP.out) GG.out)), range_set (kPx RP KV5) (Nat.ne_of_lt (Nat.lt_of_lt_of_le (lt_row RP.out) GG.out)), range_set (kPy RQ KV5) (Nat.ne_of_lt (Nat.lt_of_lt_of_le (lt_row RQ.out) GG.out)), range_set (kPx RQ KV5) (Nat.ne_of_lt (Nat.lt_of_lt_of_le (lt_row RQ.out) GG.out))⟩
       clear hK K
       try simp only [zaP, zsT, zsZ, zsS]
       refine wpAnyH_done (by kernel_rfl) ?_ _
       go_wp2_with fail
       go_meet
       case rel => exact ⟨g5, rfl, GG, hide (setRow_heap _ _ _ _ _ _ ZN.out), hide (below_setRow KV5.out GG.out _)⟩
      exact AllReadyH.nil
     exact AllReadyH.nil
    refine AllReadyH.cons (o := oPtAdd11) rfl (fun K hK => ?_) ?_
    ·
     refine step_runTo (w' := V3.alloc (.cells (num4A 0) 80)) (by rfl) (.pointer (some ⟨V3.heap.size, 0, none⟩)) (hrunAllocE rfl V3) ?_
     obtain ⟨g6, hg6⟩ : ∃ g, g = V3.heap.size := ⟨_, rfl⟩
     have ZN : Hid ((V3.alloc (.cells (num4A 0) 80)).heap[g6]? = some (.cells (num4A 0) 80 (0, 0))) := by rw [hg6]; exact heap_alloc_new _ _
     have KV6 := kAl KV3 (.cells (num4A 0) 80)
     have GG : Hid (W0.heap.size ≤ g6) := by rw [hg6]; exact KV3.out.size
     rw [← hg6]
     obtain ⟨V6, hV6⟩ : ∃ V, V = V3.alloc (.cells (num4A 0) 80) := ⟨_, rfl⟩
     rw [← hV6] at ZN KV6 ⊢
     clear hV6 hg6
     refine hK.out _ _ ?_ (fun hHeld => ?_)
     · exact ⟨kPy RP KV6, kPx RP KV6, kPy RQ KV6, kPx RQ KV6⟩
     clear hK K
     try simp only [zaP, zsT, zsZ, zsS]
     refine wpAnyH_ready (rs := [10]) (by kernel_rfl) (by simp) ?_
     refine AllReadyH.cons (o := ⟨some 19, .call ⟨.value (.func 93), #[.tmp 13, .tmp 18], #[80, 80]⟩, 80, "point.go:75", #[zeD 4, zeD 9, zeC 9], none⟩) rfl (fun K hK => ?_) ?_
     ·
      refine step_callTo (by rfl) _ _ (hrunTimes _ _ rfl (.agg (num4A (sP p.y p.x))) (.agg (num4A (sP q.y q.x))) rfl rfl V6) _ _ (feTimes (sP p.y p.x) (sP q.y q.x) (sP_lt _ _) (sP_lt _ _) V6) (fun V7 HBx => ?_)
      have KV7 := kTr KV6 HBx
      have ZN := hide (row_keep' ZN.out HBx)
      clear HBx
      refine hK.out _ _ ?_ (fun hHeld => ?_)
      · exact ⟨kPy RP KV7, kPx RP KV7, kPy RQ KV7, kPx RQ KV7⟩
      clear hK K
      try simp only [zaP, zsT, zsZ, zsS]
      refine wpAnyH_ready (rs := [12]) (by kernel_rfl) (by simp) ?_
      refine AllReadyH.cons (o := oPtAdd12) rfl (fun K hK => ?_) ?_
      ·
       refine step_store_row _ (by rfl) 80 (.tmp 5) (.tmp 19) (by rfl) (g6) (num4A (mP (sP p.y p.x) (sP q.y q.x))) (by rfl) (by rfl) 80 _ ZN.out (feSize _) (n4_old _ _) (num4A_all _) ?_
       rw [put_none']
       refine hK.out _ _ ?_ (fun hHeld => ?_)
       · exact ⟨range_set (kPy RP KV7) (Nat.ne_of_lt (Nat.lt_of_lt_of_le (lt_row RP.out) GG.out)), range_set (kPx RP KV7) (Nat.ne_of_lt (Nat.lt_of_lt_of_le (lt_row RP.out) GG.out)), range_set (kPy RQ KV7) (Nat.ne_of_lt (Nat.lt_of_lt_of_le (lt_row RQ.out) GG.out)), range_set (kPx RQ KV7) (Nat.ne_of_lt (Nat.lt_of_lt_of_le (lt_row RQ.out) GG.out))⟩
       clear hK K
       try simp only [zaP, zsT, zsZ, zsS]
       refine wpAnyH_done (by kernel_rfl) ?_ _
       go_wp2_with fail
       go_meet
       case rel => exact ⟨g6, rfl, GG, hide (setRow_heap _ _ _ _ _ _ ZN.out), hide (below_setRow KV7.out GG.out _)⟩
      exact AllReadyH.nil
     exact AllReadyH.nil
    exact AllReadyH.nil
   refine AllReadyH.cons (o := oPtAdd11) rfl (fun K hK => ?_) ?_
   ·
    refine step_runTo (w' := V2.alloc (.cells (num4A 0) 80)) (by rfl) (.pointer (some ⟨V2.heap.size, 0, none⟩)) (hrunAllocE rfl V2) ?_
    obtain ⟨g8, hg8⟩ : ∃ g, g = V2.heap.size := ⟨_, rfl⟩
    have ZN : Hid ((V2.alloc (.cells (num4A 0) 80)).heap[g8]? = some (.cells (num4A 0) 80 (0, 0))) := by rw [hg8]; exact heap_alloc_new _ _
    have KV8 := kAl KV2 (.cells (num4A 0) 80)
    have GG : Hid (W0.heap.size ≤ g8) := by rw [hg8]; exact KV2.out.size
    rw [← hg8]
    obtain ⟨V8, hV8⟩ : ∃ V, V = V2.alloc (.cells (num4A 0) 80) := ⟨_, rfl⟩
    rw [← hV8] at ZN KV8 ⊢
    clear hV8 hg8
    refine hK.out _ _ ?_ (fun hHeld => ?_)
    · exact ⟨kPy RP KV8, kPx RP KV8, kPy RQ KV8, kPx RQ KV8⟩
    clear hK K
    try simp only [zaP, zsT, zsZ, zsS]
    refine wpAnyH_ready (rs := [9]) (by kernel_rfl) (by simp) ?_
    refine AllReadyH.cons (o := ⟨some 18, .call ⟨.value (.func 119), #[.tmp 15, .tmp 17], #[80, 80]⟩, 80, "point.go:75", #[zeD 6, zeD 8, zeC 4], none⟩) rfl (fun K hK => ?_) ?_
    ·
     refine step_callTo (by rfl) _ _ (hrunMinus _ _ rfl (.agg (num4A q.y)) (.agg (num4A q.x)) rfl rfl V8) _ _ (feMinus q.y q.x Hq.out.y Hq.out.x V8) (fun V9 HBx => ?_)
     have KV9 := kTr KV8 HBx
     have ZN := hide (row_keep' ZN.out HBx)
     clear HBx
     refine hK.out _ _ ?_ (fun hHeld => ?_)
     · exact ⟨kPy RP KV9, kPx RP KV9, kPy RQ KV9, kPx RQ KV9⟩
     clear hK K
     try simp only [zaP, zsT, zsZ, zsS]
     refine wpAnyH_ready (rs := [10]) (by kernel_rfl) (by simp) ?_
     refine AllReadyH.cons (o := ⟨some 19, .call ⟨.value (.func 93), #[.tmp 13, .tmp 18], #[80, 80]⟩, 80, "point.go:75", #[zeD 4, zeD 9, zeC 9], none⟩) rfl (fun K hK => ?_) ?_
     ·
      refine step_callTo (by rfl) _ _ (hrunTimes _ _ rfl (.agg (num4A (sP p.y p.x))) (.agg (num4A (sP q.y q.x))) rfl rfl V9) _ _ (feTimes (sP p.y p.x) (sP q.y q.x) (sP_lt _ _) (sP_lt _ _) V9) (fun V10 HBx => ?_)
      have KV10 := kTr KV9 HBx
      have ZN := hide (row_keep' ZN.out HBx)
      clear HBx
      refine hK.out _ _ ?_ (fun hHeld => ?_)
      · exact ⟨kPy RP KV10, kPx RP KV10, kPy RQ KV10, kPx RQ KV10⟩
      clear hK K
      try simp only [zaP, zsT, zsZ, zsS]
      refine wpAnyH_ready (rs := [12]) (by kernel_rfl) (by simp) ?_
      refine AllReadyH.cons (o := oPtAdd12) rfl (fun K hK => ?_) ?_
      ·
       refine step_store_row _ (by rfl) 80 (.tmp 5) (.tmp 19) (by rfl) (g8) (num4A (mP (sP p.y p.x) (sP q.y q.x))) (by rfl) (by rfl) 80 _ ZN.out (feSize _) (n4_old _ _) (num4A_all _) ?_
       rw [put_none']
       refine hK.out _ _ ?_ (fun hHeld => ?_)
       · exact ⟨range_set (kPy RP KV10) (Nat.ne_of_lt (Nat.lt_of_lt_of_le (lt_row RP.out) GG.out)), range_set (kPx RP KV10) (Nat.ne_of_lt (Nat.lt_of_lt_of_le (lt_row RP.out) GG.out)), range_set (kPy RQ KV10) (Nat.ne_of_lt (Nat.lt_of_lt_of_le (lt_row RQ.out) GG.out)), range_set (kPx RQ KV10) (Nat.ne_of_lt (Nat.lt_of_lt_of_le (lt_row RQ.out) GG.out))⟩
       clear hK K
       try simp only [zaP, zsT, zsZ, zsS]
       refine wpAnyH_done (by kernel_rfl) ?_ _
       go_wp2_with fail
       go_meet
       case rel => exact ⟨g8, rfl, GG, hide (setRow_heap _ _ _ _ _ _ ZN.out), hide (below_setRow KV10.out GG.out _)⟩
      exact AllReadyH.nil
     exact AllReadyH.nil
    exact AllReadyH.nil
   exact AllReadyH.nil
  refine AllReadyH.cons (o := oPtAdd11) rfl (fun K hK => ?_) ?_
  ·
   refine step_runTo (w' := V1.alloc (.cells (num4A 0) 80)) (by rfl) (.pointer (some ⟨V1.heap.size, 0, none⟩)) (hrunAllocE rfl V1) ?_
   obtain ⟨g11, hg11⟩ : ∃ g, g = V1.heap.size := ⟨_, rfl⟩
   have ZN : Hid ((V1.alloc (.cells (num4A 0) 80)).heap[g11]? = some (.cells (num4A 0) 80 (0, 0))) := by rw [hg11]; exact heap_alloc_new _ _
   have KV11 := kAl KV1 (.cells (num4A 0) 80)
   have GG : Hid (W0.heap.size ≤ g11) := by rw [hg11]; exact KV1.out.size
   rw [← hg11]
   obtain ⟨V11, hV11⟩ : ∃ V, V = V1.alloc (.cells (num4A 0) 80) := ⟨_, rfl⟩
   rw [← hV11] at ZN KV11 ⊢
   clear hV11 hg11
   refine hK.out _ _ ?_ (fun hHeld => ?_)
   · exact ⟨kPy RP KV11, kPx RP KV11, kPy RQ KV11, kPx RQ KV11⟩
   clear hK K
   try simp only [zaP, zsT, zsZ, zsS]
   refine wpAnyH_ready (rs := [4]) (by kernel_rfl) (by simp) ?_
   refine AllReadyH.cons (o := ⟨some 13, .call ⟨.value (.func 119), #[.tmp 10, .tmp 12], #[80, 80]⟩, 80, "point.go:75", #[zeD 1, zeD 3], none⟩) rfl (fun K hK => ?_) ?_
   ·
    refine step_callTo (by rfl) _ _ (hrunMinus _ _ rfl (.agg (num4A p.y)) (.agg (num4A p.x)) rfl rfl V11) _ _ (feMinus p.y p.x Hp.out.y Hp.out.x V11) (fun V12 HBx => ?_)
    have KV12 := kTr KV11 HBx
    have ZN := hide (row_keep' ZN.out HBx)
    clear HBx
    refine hK.out _ _ ?_ (fun hHeld => ?_)
    · exact ⟨kPy RP KV12, kPx RP KV12, kPy RQ KV12, kPx RQ KV12⟩
    clear hK K
    try simp only [zaP, zsT, zsZ, zsS]
    refine wpAnyH_ready (rs := [9]) (by kernel_rfl) (by simp) ?_
    refine AllReadyH.cons (o := ⟨some 18, .call ⟨.value (.func 119), #[.tmp 15, .tmp 17], #[80, 80]⟩, 80, "point.go:75", #[zeD 6, zeD 8, zeC 4], none⟩) rfl (fun K hK => ?_) ?_
    ·
     refine step_callTo (by rfl) _ _ (hrunMinus _ _ rfl (.agg (num4A q.y)) (.agg (num4A q.x)) rfl rfl V12) _ _ (feMinus q.y q.x Hq.out.y Hq.out.x V12) (fun V13 HBx => ?_)
     have KV13 := kTr KV12 HBx
     have ZN := hide (row_keep' ZN.out HBx)
     clear HBx
     refine hK.out _ _ ?_ (fun hHeld => ?_)
     · exact ⟨kPy RP KV13, kPx RP KV13, kPy RQ KV13, kPx RQ KV13⟩
     clear hK K
     try simp only [zaP, zsT, zsZ, zsS]
     refine wpAnyH_ready (rs := [10]) (by kernel_rfl) (by simp) ?_
     refine AllReadyH.cons (o := ⟨some 19, .call ⟨.value (.func 93), #[.tmp 13, .tmp 18], #[80, 80]⟩, 80, "point.go:75", #[zeD 4, zeD 9, zeC 9], none⟩) rfl (fun K hK => ?_) ?_
     ·
      refine step_callTo (by rfl) _ _ (hrunTimes _ _ rfl (.agg (num4A (sP p.y p.x))) (.agg (num4A (sP q.y q.x))) rfl rfl V13) _ _ (feTimes (sP p.y p.x) (sP q.y q.x) (sP_lt _ _) (sP_lt _ _) V13) (fun V14 HBx => ?_)
      have KV14 := kTr KV13 HBx
      have ZN := hide (row_keep' ZN.out HBx)
      clear HBx
      refine hK.out _ _ ?_ (fun hHeld => ?_)
      · exact ⟨kPy RP KV14, kPx RP KV14, kPy RQ KV14, kPx RQ KV14⟩
      clear hK K
      try simp only [zaP, zsT, zsZ, zsS]
      refine wpAnyH_ready (rs := [12]) (by kernel_rfl) (by simp) ?_
      refine AllReadyH.cons (o := oPtAdd12) rfl (fun K hK => ?_) ?_
      ·
       refine step_store_row _ (by rfl) 80 (.tmp 5) (.tmp 19) (by rfl) (g11) (num4A (mP (sP p.y p.x) (sP q.y q.x))) (by rfl) (by rfl) 80 _ ZN.out (feSize _) (n4_old _ _) (num4A_all _) ?_
       rw [put_none']
       refine hK.out _ _ ?_ (fun hHeld => ?_)
       · exact ⟨range_set (kPy RP KV14) (Nat.ne_of_lt (Nat.lt_of_lt_of_le (lt_row RP.out) GG.out)), range_set (kPx RP KV14) (Nat.ne_of_lt (Nat.lt_of_lt_of_le (lt_row RP.out) GG.out)), range_set (kPy RQ KV14) (Nat.ne_of_lt (Nat.lt_of_lt_of_le (lt_row RQ.out) GG.out)), range_set (kPx RQ KV14) (Nat.ne_of_lt (Nat.lt_of_lt_of_le (lt_row RQ.out) GG.out))⟩
       clear hK K
       try simp only [zaP, zsT, zsZ, zsS]
       refine wpAnyH_done (by kernel_rfl) ?_ _
       go_wp2_with fail
       go_meet
       case rel => exact ⟨g11, rfl, GG, hide (setRow_heap _ _ _ _ _ _ ZN.out), hide (below_setRow KV14.out GG.out _)⟩
      exact AllReadyH.nil
     exact AllReadyH.nil
    exact AllReadyH.nil
   exact AllReadyH.nil
  exact AllReadyH.nil
 case rest =>
 obtain ⟨g5, rfl, Gg5, R5, Xg5⟩ := hcut
 obtain ⟨W1, hW⟩ : ∃ W, W = wc := ⟨_, rfl⟩
 subst hW
 have lRPg5 : w.heap.size < g5 := Nat.lt_of_lt_of_le (lt_row RP.out) Gg5.out
 have lRQg5 : w.heap.size + 1 < g5 := Nat.lt_of_lt_of_le (lt_row RQ.out) Gg5.out
 have lRZg5 : w.heap.size + 2 < g5 := Nat.lt_of_lt_of_le (lt_row RZ.out) Gg5.out
 have lRGg5 : 5 < g5 := Nat.lt_of_lt_of_le (lt_row RG.out) Gg5.out
 have RP := hide (row_below RP.out Xg5.out (lt_row RP.out))
 have RQ := hide (row_below RQ.out Xg5.out (lt_row RQ.out))
 have RZ := hide (row_below RZ.out Xg5.out (lt_row RZ.out))
 have RG := hide (row_below RG.out Xg5.out (lt_row RG.out))
 have BL : Hid (Below w.heap.size w W1) := BL.out.trans (Xg5.out.mono BL.out.size)
 clear Xg5 Gg5
 obtain ⟨a, Ea⟩ : ∃ x, Hid (x = mP (sP p.y p.x) (sP q.y q.x)) := ⟨_, rfl⟩
 have Ha : Hid (a < P) := by rw [Ea.out]; exact mP_lt _ _
 rw [← Ea.out] at R5
 go_wp2_with fail
 go_cut [6] from 20 to 30 (fun s wx => ∃ g, s = .pointer (some ⟨g, 0, none⟩) ∧ Hid (W1.heap.size ≤ g) ∧ Hid (wx.heap[g]? = some (.cells (num4A (mP (aP p.y p.x) (aP q.y q.x))) 80 (0, 0))) ∧ Hid (Below W1.heap.size W1 wx))
 case first =>
  refine wp_region_held_drew (S := fun w' => w'.rangeAt (w.heap.size) 4 (nL p.y) ∧ w'.rangeAt (w.heap.size) 0 (nL p.x) ∧ w'.rangeAt (w.heap.size + 1) 4 (nL q.y) ∧ w'.rangeAt (w.heap.size + 1) 0 (nL q.x)) (by kernel_rfl) (by exact ⟨(rangeP RP.out).2.1, (rangeP RP.out).1, (rangeP RQ.out).2.1, (rangeP RQ.out).1⟩) (fun hHeld => ?_)
  obtain ⟨V15, hV15⟩ : ∃ V, V = W1.drew := ⟨_, rfl⟩
  rw [← hV15] at hHeld ⊢
  have KV15 : Hid (Below W1.heap.size W1 V15) := by rw [hV15]; exact (Below.refl _ _).drew
  clear hV15
  refine wpAnyH_take (i := 0) (oi := ⟨some 20, .fieldAddr 82 (.tmp 2) 1, 0, "point.go:76", #[], none⟩) (v := .pointer (some ⟨w.heap.size, 4, none⟩)) rfl (by kernel_rfl) (by kernel_rfl) (by kernel_rfl) (fun _ _ _ h => h) (Or.inl ⟨by rfl, fun w _ => by go_simp⟩) hHeld ?_
  simp only [zaP, zsT, zsZ, zsS]
  refine wpAnyH_take (i := 1) (oi := ⟨some 21, .load 80 (.tmp 20), 80, "point.go:76", #[zeD 0], none⟩) (v := .agg (num4A p.y)) rfl (by kernel_rfl) (by kernel_rfl) (by kernel_rfl) (fun _ _ _ h => h) (yldN (by rfl) _ rfl (w.heap.size) 4 p.y rfl (fun w h => h.1)) hHeld ?_
  simp only [zaP, zsT, zsZ, zsS]
  refine wpAnyH_take (i := 2) (oi := ⟨some 22, .fieldAddr 82 (.tmp 2) 0, 0, "point.go:76", #[], none⟩) (v := .pointer (some ⟨w.heap.size, 0, none⟩)) rfl (by kernel_rfl) (by kernel_rfl) (by kernel_rfl) (fun _ _ _ h => h) (Or.inl ⟨by rfl, fun w _ => by go_simp⟩) hHeld ?_
  simp only [zaP, zsT, zsZ, zsS]
  refine wpAnyH_take (i := 3) (oi := ⟨some 23, .load 80 (.tmp 22), 80, "point.go:76", #[zeD 2], none⟩) (v := .agg (num4A p.x)) rfl (by kernel_rfl) (by kernel_rfl) (by kernel_rfl) (fun _ _ _ h => h) (yldN (by rfl) _ rfl (w.heap.size) 0 p.x rfl (fun w h => h.2.1)) hHeld ?_
  simp only [zaP, zsT, zsZ, zsS]
  refine wpAnyH_take (i := 5) (oi := ⟨some 25, .fieldAddr 82 (.tmp 3) 1, 0, "point.go:76", #[], none⟩) (v := .pointer (some ⟨w.heap.size + 1, 4, none⟩)) rfl (by kernel_rfl) (by kernel_rfl) (by kernel_rfl) (fun _ _ _ h => h) (Or.inl ⟨by rfl, fun w _ => by go_simp⟩) hHeld ?_
  simp only [zaP, zsT, zsZ, zsS]
  refine wpAnyH_take (i := 6) (oi := ⟨some 26, .load 80 (.tmp 25), 80, "point.go:76", #[zeD 5], none⟩) (v := .agg (num4A q.y)) rfl (by kernel_rfl) (by kernel_rfl) (by kernel_rfl) (fun _ _ _ h => h) (yldN (by rfl) _ rfl (w.heap.size + 1) 4 q.y rfl (fun w h => h.2.2.1)) hHeld ?_
  simp only [zaP, zsT, zsZ, zsS]
  refine wpAnyH_take (i := 7) (oi := ⟨some 27, .fieldAddr 82 (.tmp 3) 0, 0, "point.go:76", #[], none⟩) (v := .pointer (some ⟨w.heap.size + 1, 0, none⟩)) rfl (by kernel_rfl) (by kernel_rfl) (by kernel_rfl) (fun _ _ _ h => h) (Or.inl ⟨by rfl, fun w _ => by go_simp⟩) hHeld ?_
  simp only [zaP, zsT, zsZ, zsS]
  refine wpAnyH_take (i := 8) (oi := ⟨some 28, .load 80 (.tmp 27), 80, "point.go:76", #[zeD 7], none⟩) (v := .agg (num4A q.x)) rfl (by kernel_rfl) (by kernel_rfl) (by kernel_rfl) (fun _ _ _ h => h) (yldN (by rfl) _ rfl (w.heap.size + 1) 0 q.x rfl (fun w h => h.2.2.2)) hHeld ?_
  simp only [zaP, zsT, zsZ, zsS]
  refine wpAnyH_ready (rs := [4, 11]) (by kernel_rfl) (by simp) ?_
  refine AllReadyH.cons (o := ⟨some 24, .call ⟨.value (.func 120), #[.tmp 21, .tmp 23], #[80, 80]⟩, 80, "point.go:76", #[zeD 1, zeD 3], none⟩) rfl (fun K hK => ?_) ?_
  ·
   refine step_callTo (by rfl) _ _ (hrunPlus _ _ rfl (.agg (num4A p.y)) (.agg (num4A p.x)) rfl rfl V15) _ _ (fePlus p.y p.x Hp.out.y Hp.out.x V15) (fun V16 HBx => ?_)
   have KV16 := kTr KV15 HBx
   clear HBx
   refine hK.out _ _ ?_ (fun hHeld => ?_)
   · exact ⟨kPy RP KV16, kPx RP KV16, kPy RQ KV16, kPx RQ KV16⟩
   clear hK K
   try simp only [zaP, zsT, zsZ, zsS]
   refine wpAnyH_ready (rs := [9, 11]) (by kernel_rfl) (by simp) ?_
   refine AllReadyH.cons (o := ⟨some 29, .call ⟨.value (.func 120), #[.tmp 26, .tmp 28], #[80, 80]⟩, 80, "point.go:76", #[zeD 6, zeD 8, zeC 4], none⟩) rfl (fun K hK => ?_) ?_
   ·
    refine step_callTo (by rfl) _ _ (hrunPlus _ _ rfl (.agg (num4A q.y)) (.agg (num4A q.x)) rfl rfl V16) _ _ (fePlus q.y q.x Hq.out.y Hq.out.x V16) (fun V17 HBx => ?_)
    have KV17 := kTr KV16 HBx
    clear HBx
    refine hK.out _ _ ?_ (fun hHeld => ?_)
    · exact ⟨kPy RP KV17, kPx RP KV17, kPy RQ KV17, kPx RQ KV17⟩
    clear hK K
    try simp only [zaP, zsT, zsZ, zsS]
    refine wpAnyH_ready (rs := [10, 11]) (by kernel_rfl) (by simp) ?_
    refine AllReadyH.cons (o := ⟨some 30, .call ⟨.value (.func 93), #[.tmp 24, .tmp 29], #[80, 80]⟩, 80, "point.go:76", #[zeD 4, zeD 9, zeC 9], none⟩) rfl (fun K hK => ?_) ?_
    ·
     refine step_callTo (by rfl) _ _ (hrunTimes _ _ rfl (.agg (num4A (aP p.y p.x))) (.agg (num4A (aP q.y q.x))) rfl rfl V17) _ _ (feTimes (aP p.y p.x) (aP q.y q.x) (aP_lt _ _) (aP_lt _ _) V17) (fun V18 HBx => ?_)
     have KV18 := kTr KV17 HBx
     clear HBx
     refine hK.out _ _ ?_ (fun hHeld => ?_)
     · exact ⟨kPy RP KV18, kPx RP KV18, kPy RQ KV18, kPx RQ KV18⟩
     clear hK K
     try simp only [zaP, zsT, zsZ, zsS]
     refine wpAnyH_ready (rs := [11]) (by kernel_rfl) (by simp) ?_
     refine AllReadyH.cons (o := oPtAdd24) rfl (fun K hK => ?_) ?_
     ·
      refine step_runTo (w' := V18.alloc (.cells (num4A 0) 80)) (by rfl) (.pointer (some ⟨V18.heap.size, 0, none⟩)) (hrunAllocE rfl V18) ?_
      obtain ⟨g19, hg19⟩ : ∃ g, g = V18.heap.size := ⟨_, rfl⟩
      have ZN : Hid ((V18.alloc (.cells (num4A 0) 80)).heap[g19]? = some (.cells (num4A 0) 80 (0, 0))) := by rw [hg19]; exact heap_alloc_new _ _
      have KV19 := kAl KV18 (.cells (num4A 0) 80)
      have GG : Hid (W1.heap.size ≤ g19) := by rw [hg19]; exact KV18.out.size
      rw [← hg19]
      obtain ⟨V19, hV19⟩ : ∃ V, V = V18.alloc (.cells (num4A 0) 80) := ⟨_, rfl⟩
      rw [← hV19] at ZN KV19 ⊢
      clear hV19 hg19
      refine hK.out _ _ ?_ (fun hHeld => ?_)
      · exact ⟨kPy RP KV19, kPx RP KV19, kPy RQ KV19, kPx RQ KV19⟩
      clear hK K
      try simp only [zaP, zsT, zsZ, zsS]
      refine wpAnyH_ready (rs := [12]) (by kernel_rfl) (by simp) ?_
      refine AllReadyH.cons (o := oPtAdd25) rfl (fun K hK => ?_) ?_
      ·
       refine step_store_row _ (by rfl) 80 (.tmp 6) (.tmp 30) (by rfl) (g19) (num4A (mP (aP p.y p.x) (aP q.y q.x))) (by rfl) (by rfl) 80 _ ZN.out (feSize _) (n4_old _ _) (num4A_all _) ?_
       rw [put_none']
       refine hK.out _ _ ?_ (fun hHeld => ?_)
       · exact ⟨range_set (kPy RP KV19) (Nat.ne_of_lt (Nat.lt_of_lt_of_le (lt_row RP.out) GG.out)), range_set (kPx RP KV19) (Nat.ne_of_lt (Nat.lt_of_lt_of_le (lt_row RP.out) GG.out)), range_set (kPy RQ KV19) (Nat.ne_of_lt (Nat.lt_of_lt_of_le (lt_row RQ.out) GG.out)), range_set (kPx RQ KV19) (Nat.ne_of_lt (Nat.lt_of_lt_of_le (lt_row RQ.out) GG.out))⟩
       clear hK K
       try simp only [zaP, zsT, zsZ, zsS]
       refine wpAnyH_done (by kernel_rfl) ?_ _
       go_wp2_with fail
       go_meet
       case rel => exact ⟨g19, rfl, GG, hide (setRow_heap _ _ _ _ _ _ ZN.out), hide (below_setRow KV19.out GG.out _)⟩
      exact AllReadyH.nil
     exact AllReadyH.nil
    refine AllReadyH.cons (o := oPtAdd24) rfl (fun K hK => ?_) ?_
    ·
     refine step_runTo (w' := V17.alloc (.cells (num4A 0) 80)) (by rfl) (.pointer (some ⟨V17.heap.size, 0, none⟩)) (hrunAllocE rfl V17) ?_
     obtain ⟨g20, hg20⟩ : ∃ g, g = V17.heap.size := ⟨_, rfl⟩
     have ZN : Hid ((V17.alloc (.cells (num4A 0) 80)).heap[g20]? = some (.cells (num4A 0) 80 (0, 0))) := by rw [hg20]; exact heap_alloc_new _ _
     have KV20 := kAl KV17 (.cells (num4A 0) 80)
     have GG : Hid (W1.heap.size ≤ g20) := by rw [hg20]; exact KV17.out.size
     rw [← hg20]
     obtain ⟨V20, hV20⟩ : ∃ V, V = V17.alloc (.cells (num4A 0) 80) := ⟨_, rfl⟩
     rw [← hV20] at ZN KV20 ⊢
     clear hV20 hg20
     refine hK.out _ _ ?_ (fun hHeld => ?_)
     · exact ⟨kPy RP KV20, kPx RP KV20, kPy RQ KV20, kPx RQ KV20⟩
     clear hK K
     try simp only [zaP, zsT, zsZ, zsS]
     refine wpAnyH_ready (rs := [10]) (by kernel_rfl) (by simp) ?_
     refine AllReadyH.cons (o := ⟨some 30, .call ⟨.value (.func 93), #[.tmp 24, .tmp 29], #[80, 80]⟩, 80, "point.go:76", #[zeD 4, zeD 9, zeC 9], none⟩) rfl (fun K hK => ?_) ?_
     ·
      refine step_callTo (by rfl) _ _ (hrunTimes _ _ rfl (.agg (num4A (aP p.y p.x))) (.agg (num4A (aP q.y q.x))) rfl rfl V20) _ _ (feTimes (aP p.y p.x) (aP q.y q.x) (aP_lt _ _) (aP_lt _ _) V20) (fun V21 HBx => ?_)
      have KV21 := kTr KV20 HBx
      have ZN := hide (row_keep' ZN.out HBx)
      clear HBx
      refine hK.out _ _ ?_ (fun hHeld => ?_)
      · exact ⟨kPy RP KV21, kPx RP KV21, kPy RQ KV21, kPx RQ KV21⟩
      clear hK K
      try simp only [zaP, zsT, zsZ, zsS]
      refine wpAnyH_ready (rs := [12]) (by kernel_rfl) (by simp) ?_
      refine AllReadyH.cons (o := oPtAdd25) rfl (fun K hK => ?_) ?_
      ·
       refine step_store_row _ (by rfl) 80 (.tmp 6) (.tmp 30) (by rfl) (g20) (num4A (mP (aP p.y p.x) (aP q.y q.x))) (by rfl) (by rfl) 80 _ ZN.out (feSize _) (n4_old _ _) (num4A_all _) ?_
       rw [put_none']
       refine hK.out _ _ ?_ (fun hHeld => ?_)
       · exact ⟨range_set (kPy RP KV21) (Nat.ne_of_lt (Nat.lt_of_lt_of_le (lt_row RP.out) GG.out)), range_set (kPx RP KV21) (Nat.ne_of_lt (Nat.lt_of_lt_of_le (lt_row RP.out) GG.out)), range_set (kPy RQ KV21) (Nat.ne_of_lt (Nat.lt_of_lt_of_le (lt_row RQ.out) GG.out)), range_set (kPx RQ KV21) (Nat.ne_of_lt (Nat.lt_of_lt_of_le (lt_row RQ.out) GG.out))⟩
       clear hK K
       try simp only [zaP, zsT, zsZ, zsS]
       refine wpAnyH_done (by kernel_rfl) ?_ _
       go_wp2_with fail
       go_meet
       case rel => exact ⟨g20, rfl, GG, hide (setRow_heap _ _ _ _ _ _ ZN.out), hide (below_setRow KV21.out GG.out _)⟩
      exact AllReadyH.nil
     exact AllReadyH.nil
    exact AllReadyH.nil
   refine AllReadyH.cons (o := oPtAdd24) rfl (fun K hK => ?_) ?_
   ·
    refine step_runTo (w' := V16.alloc (.cells (num4A 0) 80)) (by rfl) (.pointer (some ⟨V16.heap.size, 0, none⟩)) (hrunAllocE rfl V16) ?_
    obtain ⟨g22, hg22⟩ : ∃ g, g = V16.heap.size := ⟨_, rfl⟩
    have ZN : Hid ((V16.alloc (.cells (num4A 0) 80)).heap[g22]? = some (.cells (num4A 0) 80 (0, 0))) := by rw [hg22]; exact heap_alloc_new _ _
    have KV22 := kAl KV16 (.cells (num4A 0) 80)
    have GG : Hid (W1.heap.size ≤ g22) := by rw [hg22]; exact KV16.out.size
    rw [← hg22]
    obtain ⟨V22, hV22⟩ : ∃ V, V = V16.alloc (.cells (num4A 0) 80) := ⟨_, rfl⟩
    rw [← hV22] at ZN KV22 ⊢
    clear hV22 hg22
    refine hK.out _ _ ?_ (fun hHeld => ?_)
    · exact ⟨kPy RP KV22, kPx RP KV22, kPy RQ KV22, kPx RQ KV22⟩
    clear hK K
    try simp only [zaP, zsT, zsZ, zsS]
    refine wpAnyH_ready (rs := [9]) (by kernel_rfl) (by simp) ?_
    refine AllReadyH.cons (o := ⟨some 29, .call ⟨.value (.func 120), #[.tmp 26, .tmp 28], #[80, 80]⟩, 80, "point.go:76", #[zeD 6, zeD 8, zeC 4], none⟩) rfl (fun K hK => ?_) ?_
    ·
     refine step_callTo (by rfl) _ _ (hrunPlus _ _ rfl (.agg (num4A q.y)) (.agg (num4A q.x)) rfl rfl V22) _ _ (fePlus q.y q.x Hq.out.y Hq.out.x V22) (fun V23 HBx => ?_)
     have KV23 := kTr KV22 HBx
     have ZN := hide (row_keep' ZN.out HBx)
     clear HBx
     refine hK.out _ _ ?_ (fun hHeld => ?_)
     · exact ⟨kPy RP KV23, kPx RP KV23, kPy RQ KV23, kPx RQ KV23⟩
     clear hK K
     try simp only [zaP, zsT, zsZ, zsS]
     refine wpAnyH_ready (rs := [10]) (by kernel_rfl) (by simp) ?_
     refine AllReadyH.cons (o := ⟨some 30, .call ⟨.value (.func 93), #[.tmp 24, .tmp 29], #[80, 80]⟩, 80, "point.go:76", #[zeD 4, zeD 9, zeC 9], none⟩) rfl (fun K hK => ?_) ?_
     ·
      refine step_callTo (by rfl) _ _ (hrunTimes _ _ rfl (.agg (num4A (aP p.y p.x))) (.agg (num4A (aP q.y q.x))) rfl rfl V23) _ _ (feTimes (aP p.y p.x) (aP q.y q.x) (aP_lt _ _) (aP_lt _ _) V23) (fun V24 HBx => ?_)
      have KV24 := kTr KV23 HBx
      have ZN := hide (row_keep' ZN.out HBx)
      clear HBx
      refine hK.out _ _ ?_ (fun hHeld => ?_)
      · exact ⟨kPy RP KV24, kPx RP KV24, kPy RQ KV24, kPx RQ KV24⟩
      clear hK K
      try simp only [zaP, zsT, zsZ, zsS]
      refine wpAnyH_ready (rs := [12]) (by kernel_rfl) (by simp) ?_
      refine AllReadyH.cons (o := oPtAdd25) rfl (fun K hK => ?_) ?_
      ·
       refine step_store_row _ (by rfl) 80 (.tmp 6) (.tmp 30) (by rfl) (g22) (num4A (mP (aP p.y p.x) (aP q.y q.x))) (by rfl) (by rfl) 80 _ ZN.out (feSize _) (n4_old _ _) (num4A_all _) ?_
       rw [put_none']
       refine hK.out _ _ ?_ (fun hHeld => ?_)
       · exact ⟨range_set (kPy RP KV24) (Nat.ne_of_lt (Nat.lt_of_lt_of_le (lt_row RP.out) GG.out)), range_set (kPx RP KV24) (Nat.ne_of_lt (Nat.lt_of_lt_of_le (lt_row RP.out) GG.out)), range_set (kPy RQ KV24) (Nat.ne_of_lt (Nat.lt_of_lt_of_le (lt_row RQ.out) GG.out)), range_set (kPx RQ KV24) (Nat.ne_of_lt (Nat.lt_of_lt_of_le (lt_row RQ.out) GG.out))⟩
       clear hK K
       try simp only [zaP, zsT, zsZ, zsS]
       refine wpAnyH_done (by kernel_rfl) ?_ _
       go_wp2_with fail
       go_meet
       case rel => exact ⟨g22, rfl, GG, hide (setRow_heap _ _ _ _ _ _ ZN.out), hide (below_setRow KV24.out GG.out _)⟩
      exact AllReadyH.nil
     exact AllReadyH.nil
    exact AllReadyH.nil
   exact AllReadyH.nil
  refine AllReadyH.cons (o := oPtAdd24) rfl (fun K hK => ?_) ?_
  ·
   refine step_runTo (w' := V15.alloc (.cells (num4A 0) 80)) (by rfl) (.pointer (some ⟨V15.heap.size, 0, none⟩)) (hrunAllocE rfl V15) ?_
   obtain ⟨g25, hg25⟩ : ∃ g, g = V15.heap.size := ⟨_, rfl⟩
   have ZN : Hid ((V15.alloc (.cells (num4A 0) 80)).heap[g25]? = some (.cells (num4A 0) 80 (0, 0))) := by rw [hg25]; exact heap_alloc_new _ _
   have KV25 := kAl KV15 (.cells (num4A 0) 80)
   have GG : Hid (W1.heap.size ≤ g25) := by rw [hg25]; exact KV15.out.size
   rw [← hg25]
   obtain ⟨V25, hV25⟩ : ∃ V, V = V15.alloc (.cells (num4A 0) 80) := ⟨_, rfl⟩
   rw [← hV25] at ZN KV25 ⊢
   clear hV25 hg25
   refine hK.out _ _ ?_ (fun hHeld => ?_)
   · exact ⟨kPy RP KV25, kPx RP KV25, kPy RQ KV25, kPx RQ KV25⟩
   clear hK K
   try simp only [zaP, zsT, zsZ, zsS]
   refine wpAnyH_ready (rs := [4]) (by kernel_rfl) (by simp) ?_
   refine AllReadyH.cons (o := ⟨some 24, .call ⟨.value (.func 120), #[.tmp 21, .tmp 23], #[80, 80]⟩, 80, "point.go:76", #[zeD 1, zeD 3], none⟩) rfl (fun K hK => ?_) ?_
   ·
    refine step_callTo (by rfl) _ _ (hrunPlus _ _ rfl (.agg (num4A p.y)) (.agg (num4A p.x)) rfl rfl V25) _ _ (fePlus p.y p.x Hp.out.y Hp.out.x V25) (fun V26 HBx => ?_)
    have KV26 := kTr KV25 HBx
    have ZN := hide (row_keep' ZN.out HBx)
    clear HBx
    refine hK.out _ _ ?_ (fun hHeld => ?_)
    · exact ⟨kPy RP KV26, kPx RP KV26, kPy RQ KV26, kPx RQ KV26⟩
    clear hK K
    try simp only [zaP, zsT, zsZ, zsS]
    refine wpAnyH_ready (rs := [9]) (by kernel_rfl) (by simp) ?_
    refine AllReadyH.cons (o := ⟨some 29, .call ⟨.value (.func 120), #[.tmp 26, .tmp 28], #[80, 80]⟩, 80, "point.go:76", #[zeD 6, zeD 8, zeC 4], none⟩) rfl (fun K hK => ?_) ?_
    ·
     refine step_callTo (by rfl) _ _ (hrunPlus _ _ rfl (.agg (num4A q.y)) (.agg (num4A q.x)) rfl rfl V26) _ _ (fePlus q.y q.x Hq.out.y Hq.out.x V26) (fun V27 HBx => ?_)
     have KV27 := kTr KV26 HBx
     have ZN := hide (row_keep' ZN.out HBx)
     clear HBx
     refine hK.out _ _ ?_ (fun hHeld => ?_)
     · exact ⟨kPy RP KV27, kPx RP KV27, kPy RQ KV27, kPx RQ KV27⟩
     clear hK K
     try simp only [zaP, zsT, zsZ, zsS]
     refine wpAnyH_ready (rs := [10]) (by kernel_rfl) (by simp) ?_
     refine AllReadyH.cons (o := ⟨some 30, .call ⟨.value (.func 93), #[.tmp 24, .tmp 29], #[80, 80]⟩, 80, "point.go:76", #[zeD 4, zeD 9, zeC 9], none⟩) rfl (fun K hK => ?_) ?_
     ·
      refine step_callTo (by rfl) _ _ (hrunTimes _ _ rfl (.agg (num4A (aP p.y p.x))) (.agg (num4A (aP q.y q.x))) rfl rfl V27) _ _ (feTimes (aP p.y p.x) (aP q.y q.x) (aP_lt _ _) (aP_lt _ _) V27) (fun V28 HBx => ?_)
      have KV28 := kTr KV27 HBx
      have ZN := hide (row_keep' ZN.out HBx)
      clear HBx
      refine hK.out _ _ ?_ (fun hHeld => ?_)
      · exact ⟨kPy RP KV28, kPx RP KV28, kPy RQ KV28, kPx RQ KV28⟩
      clear hK K
      try simp only [zaP, zsT, zsZ, zsS]
      refine wpAnyH_ready (rs := [12]) (by kernel_rfl) (by simp) ?_
      refine AllReadyH.cons (o := oPtAdd25) rfl (fun K hK => ?_) ?_
      ·
       refine step_store_row _ (by rfl) 80 (.tmp 6) (.tmp 30) (by rfl) (g25) (num4A (mP (aP p.y p.x) (aP q.y q.x))) (by rfl) (by rfl) 80 _ ZN.out (feSize _) (n4_old _ _) (num4A_all _) ?_
       rw [put_none']
       refine hK.out _ _ ?_ (fun hHeld => ?_)
       · exact ⟨range_set (kPy RP KV28) (Nat.ne_of_lt (Nat.lt_of_lt_of_le (lt_row RP.out) GG.out)), range_set (kPx RP KV28) (Nat.ne_of_lt (Nat.lt_of_lt_of_le (lt_row RP.out) GG.out)), range_set (kPy RQ KV28) (Nat.ne_of_lt (Nat.lt_of_lt_of_le (lt_row RQ.out) GG.out)), range_set (kPx RQ KV28) (Nat.ne_of_lt (Nat.lt_of_lt_of_le (lt_row RQ.out) GG.out))⟩
       clear hK K
       try simp only [zaP, zsT, zsZ, zsS]
       refine wpAnyH_done (by kernel_rfl) ?_ _
       go_wp2_with fail
       go_meet
       case rel => exact ⟨g25, rfl, GG, hide (setRow_heap _ _ _ _ _ _ ZN.out), hide (below_setRow KV28.out GG.out _)⟩
      exact AllReadyH.nil
     exact AllReadyH.nil
    exact AllReadyH.nil
   exact AllReadyH.nil
  exact AllReadyH.nil
 case rest =>
 obtain ⟨g6, rfl, Gg6, R6, Xg6⟩ := hcut
 obtain ⟨W2, hW⟩ : ∃ W, W = wc := ⟨_, rfl⟩
 subst hW
 have lRPg6 : w.heap.size < g6 := Nat.lt_of_lt_of_le (lt_row RP.out) Gg6.out
 have lRQg6 : w.heap.size + 1 < g6 := Nat.lt_of_lt_of_le (lt_row RQ.out) Gg6.out
 have lRZg6 : w.heap.size + 2 < g6 := Nat.lt_of_lt_of_le (lt_row RZ.out) Gg6.out
 have lRGg6 : 5 < g6 := Nat.lt_of_lt_of_le (lt_row RG.out) Gg6.out
 have lR5g6 : g5 < g6 := Nat.lt_of_lt_of_le (lt_row R5.out) Gg6.out
 have RP := hide (row_below RP.out Xg6.out (lt_row RP.out))
 have RQ := hide (row_below RQ.out Xg6.out (lt_row RQ.out))
 have RZ := hide (row_below RZ.out Xg6.out (lt_row RZ.out))
 have RG := hide (row_below RG.out Xg6.out (lt_row RG.out))
 have R5 := hide (row_below R5.out Xg6.out (lt_row R5.out))
 have BL : Hid (Below w.heap.size w W2) := BL.out.trans (Xg6.out.mono BL.out.size)
 clear Xg6 Gg6
 obtain ⟨b, Eb⟩ : ∃ x, Hid (x = mP (aP p.y p.x) (aP q.y q.x)) := ⟨_, rfl⟩
 have Hb : Hid (b < P) := by rw [Eb.out]; exact mP_lt _ _
 rw [← Eb.out] at R6
 go_wp2_with fail
 go_cut [7] from 31 to 37 (fun s wx => ∃ g, s = .pointer (some ⟨g, 0, none⟩) ∧ Hid (W2.heap.size ≤ g) ∧ Hid (wx.heap[g]? = some (.cells (num4A (mP (mP p.t td) q.t)) 80 (0, 0))) ∧ Hid (Below W2.heap.size W2 wx))
 case first =>
  refine wp_region_held_drew (S := fun w' => w'.rangeAt (w.heap.size) 12 (nL p.t) ∧ w'.rangeAt (5) 0 (nL td) ∧ w'.rangeAt (w.heap.size + 1) 12 (nL q.t)) (by kernel_rfl) (by exact ⟨(rangeP RP.out).2.2.2, rangeN RG.out, (rangeP RQ.out).2.2.2⟩) (fun hHeld => ?_)
  obtain ⟨V29, hV29⟩ : ∃ V, V = W2.drew := ⟨_, rfl⟩
  rw [← hV29] at hHeld ⊢
  have KV29 : Hid (Below W2.heap.size W2 V29) := by rw [hV29]; exact (Below.refl _ _).drew
  clear hV29
  refine wpAnyH_take (i := 0) (oi := ⟨some 31, .fieldAddr 82 (.tmp 2) 3, 0, "point.go:77", #[], none⟩) (v := .pointer (some ⟨w.heap.size, 12, none⟩)) rfl (by kernel_rfl) (by kernel_rfl) (by kernel_rfl) (fun _ _ _ h => h) (Or.inl ⟨by rfl, fun w _ => by go_simp⟩) hHeld ?_
  simp only [zaP, zsT, zsZ, zsS]
  refine wpAnyH_take (i := 1) (oi := ⟨some 32, .load 80 (.tmp 31), 80, "point.go:77", #[zeD 0], none⟩) (v := .agg (num4A p.t)) rfl (by kernel_rfl) (by kernel_rfl) (by kernel_rfl) (fun _ _ _ h => h) (yldN (by rfl) _ rfl (w.heap.size) 12 p.t rfl (fun w h => h.1)) hHeld ?_
  simp only [zaP, zsT, zsZ, zsS]
  refine wpAnyH_take (i := 2) (oi := ⟨some 33, .load 80 (.global 5), 80, "point.go:77", #[], none⟩) (v := .agg (num4A td)) rfl (by kernel_rfl) (by kernel_rfl) (by kernel_rfl) (fun _ _ _ h => h) (yldN (by rfl) _ rfl (5) 0 td rfl (fun w h => h.2.1)) hHeld ?_
  simp only [zaP, zsT, zsZ, zsS]
  refine wpAnyH_take (i := 4) (oi := ⟨some 35, .fieldAddr 82 (.tmp 3) 3, 0, "point.go:77", #[], none⟩) (v := .pointer (some ⟨w.heap.size + 1, 12, none⟩)) rfl (by kernel_rfl) (by kernel_rfl) (by kernel_rfl) (fun _ _ _ h => h) (Or.inl ⟨by rfl, fun w _ => by go_simp⟩) hHeld ?_
  simp only [zaP, zsT, zsZ, zsS]
  refine wpAnyH_take (i := 5) (oi := ⟨some 36, .load 80 (.tmp 35), 80, "point.go:77", #[zeD 4], none⟩) (v := .agg (num4A q.t)) rfl (by kernel_rfl) (by kernel_rfl) (by kernel_rfl) (fun _ _ _ h => h) (yldN (by rfl) _ rfl (w.heap.size + 1) 12 q.t rfl (fun w h => h.2.2)) hHeld ?_
  simp only [zaP, zsT, zsZ, zsS]
  refine wpAnyH_ready (rs := [3, 7]) (by kernel_rfl) (by simp) ?_
  refine AllReadyH.cons (o := ⟨some 34, .call ⟨.value (.func 93), #[.tmp 32, .tmp 33], #[80, 80]⟩, 80, "point.go:77", #[zeD 1, zeD 2], none⟩) rfl (fun K hK => ?_) ?_
  ·
   refine step_callTo (by rfl) _ _ (hrunTimes _ _ rfl (.agg (num4A p.t)) (.agg (num4A td)) rfl rfl V29) _ _ (feTimes p.t td Hp.out.t Htd.out V29) (fun V30 HBx => ?_)
   have KV30 := kTr KV29 HBx
   clear HBx
   refine hK.out _ _ ?_ (fun hHeld => ?_)
   · exact ⟨kPt RP KV30, kNm RG KV30, kPt RQ KV30⟩
   clear hK K
   try simp only [zaP, zsT, zsZ, zsS]
   refine wpAnyH_ready (rs := [6, 7]) (by kernel_rfl) (by simp) ?_
   refine AllReadyH.cons (o := ⟨some 37, .call ⟨.value (.func 93), #[.tmp 34, .tmp 36], #[80, 80]⟩, 80, "point.go:77", #[zeD 3, zeD 5, zeC 3], none⟩) rfl (fun K hK => ?_) ?_
   ·
    refine step_callTo (by rfl) _ _ (hrunTimes _ _ rfl (.agg (num4A (mP p.t td))) (.agg (num4A q.t)) rfl rfl V30) _ _ (feTimes (mP p.t td) q.t (mP_lt _ _) Hq.out.t V30) (fun V31 HBx => ?_)
    have KV31 := kTr KV30 HBx
    clear HBx
    refine hK.out _ _ ?_ (fun hHeld => ?_)
    · exact ⟨kPt RP KV31, kNm RG KV31, kPt RQ KV31⟩
    clear hK K
    try simp only [zaP, zsT, zsZ, zsS]
    refine wpAnyH_ready (rs := [7]) (by kernel_rfl) (by simp) ?_
    refine AllReadyH.cons (o := oPtAdd33) rfl (fun K hK => ?_) ?_
    ·
     refine step_runTo (w' := V31.alloc (.cells (num4A 0) 80)) (by rfl) (.pointer (some ⟨V31.heap.size, 0, none⟩)) (hrunAllocE rfl V31) ?_
     obtain ⟨g32, hg32⟩ : ∃ g, g = V31.heap.size := ⟨_, rfl⟩
     have ZN : Hid ((V31.alloc (.cells (num4A 0) 80)).heap[g32]? = some (.cells (num4A 0) 80 (0, 0))) := by rw [hg32]; exact heap_alloc_new _ _
     have KV32 := kAl KV31 (.cells (num4A 0) 80)
     have GG : Hid (W2.heap.size ≤ g32) := by rw [hg32]; exact KV31.out.size
     rw [← hg32]
     obtain ⟨V32, hV32⟩ : ∃ V, V = V31.alloc (.cells (num4A 0) 80) := ⟨_, rfl⟩
     rw [← hV32] at ZN KV32 ⊢
     clear hV32 hg32
     refine hK.out _ _ ?_ (fun hHeld => ?_)
     · exact ⟨kPt RP KV32, kNm RG KV32, kPt RQ KV32⟩
     clear hK K
     try simp only [zaP, zsT, zsZ, zsS]
     refine wpAnyH_ready (rs := [8]) (by kernel_rfl) (by simp) ?_
     refine AllReadyH.cons (o := oPtAdd34) rfl (fun K hK => ?_) ?_
     ·
      refine step_store_row _ (by rfl) 80 (.tmp 7) (.tmp 37) (by rfl) (g32) (num4A (mP (mP p.t td) q.t)) (by rfl) (by rfl) 80 _ ZN.out (feSize _) (n4_old _ _) (num4A_all _) ?_
      rw [put_none']
      refine hK.out _ _ ?_ (fun hHeld => ?_)
      · exact ⟨range_set (kPt RP KV32) (Nat.ne_of_lt (Nat.lt_of_lt_of_le (lt_row RP.out) GG.out)), range_set (kNm RG KV32) (Nat.ne_of_lt (Nat.lt_of_lt_of_le (lt_row RG.out) GG.out)), range_set (kPt RQ KV32) (Nat.ne_of_lt (Nat.lt_of_lt_of_le (lt_row RQ.out) GG.out))⟩
      clear hK K
      try simp only [zaP, zsT, zsZ, zsS]
      refine wpAnyH_done (by kernel_rfl) ?_ _
      go_wp2_with fail
      go_meet
      case rel => exact ⟨g32, rfl, GG, hide (setRow_heap _ _ _ _ _ _ ZN.out), hide (below_setRow KV32.out GG.out _)⟩
     exact AllReadyH.nil
    exact AllReadyH.nil
   refine AllReadyH.cons (o := oPtAdd33) rfl (fun K hK => ?_) ?_
   ·
    refine step_runTo (w' := V30.alloc (.cells (num4A 0) 80)) (by rfl) (.pointer (some ⟨V30.heap.size, 0, none⟩)) (hrunAllocE rfl V30) ?_
    obtain ⟨g33, hg33⟩ : ∃ g, g = V30.heap.size := ⟨_, rfl⟩
    have ZN : Hid ((V30.alloc (.cells (num4A 0) 80)).heap[g33]? = some (.cells (num4A 0) 80 (0, 0))) := by rw [hg33]; exact heap_alloc_new _ _
    have KV33 := kAl KV30 (.cells (num4A 0) 80)
    have GG : Hid (W2.heap.size ≤ g33) := by rw [hg33]; exact KV30.out.size
    rw [← hg33]
    obtain ⟨V33, hV33⟩ : ∃ V, V = V30.alloc (.cells (num4A 0) 80) := ⟨_, rfl⟩
    rw [← hV33] at ZN KV33 ⊢
    clear hV33 hg33
    refine hK.out _ _ ?_ (fun hHeld => ?_)
    · exact ⟨kPt RP KV33, kNm RG KV33, kPt RQ KV33⟩
    clear hK K
    try simp only [zaP, zsT, zsZ, zsS]
    refine wpAnyH_ready (rs := [6]) (by kernel_rfl) (by simp) ?_
    refine AllReadyH.cons (o := ⟨some 37, .call ⟨.value (.func 93), #[.tmp 34, .tmp 36], #[80, 80]⟩, 80, "point.go:77", #[zeD 3, zeD 5, zeC 3], none⟩) rfl (fun K hK => ?_) ?_
    ·
     refine step_callTo (by rfl) _ _ (hrunTimes _ _ rfl (.agg (num4A (mP p.t td))) (.agg (num4A q.t)) rfl rfl V33) _ _ (feTimes (mP p.t td) q.t (mP_lt _ _) Hq.out.t V33) (fun V34 HBx => ?_)
     have KV34 := kTr KV33 HBx
     have ZN := hide (row_keep' ZN.out HBx)
     clear HBx
     refine hK.out _ _ ?_ (fun hHeld => ?_)
     · exact ⟨kPt RP KV34, kNm RG KV34, kPt RQ KV34⟩
     clear hK K
     try simp only [zaP, zsT, zsZ, zsS]
     refine wpAnyH_ready (rs := [8]) (by kernel_rfl) (by simp) ?_
     refine AllReadyH.cons (o := oPtAdd34) rfl (fun K hK => ?_) ?_
     ·
      refine step_store_row _ (by rfl) 80 (.tmp 7) (.tmp 37) (by rfl) (g33) (num4A (mP (mP p.t td) q.t)) (by rfl) (by rfl) 80 _ ZN.out (feSize _) (n4_old _ _) (num4A_all _) ?_
      rw [put_none']
      refine hK.out _ _ ?_ (fun hHeld => ?_)
      · exact ⟨range_set (kPt RP KV34) (Nat.ne_of_lt (Nat.lt_of_lt_of_le (lt_row RP.out) GG.out)), range_set (kNm RG KV34) (Nat.ne_of_lt (Nat.lt_of_lt_of_le (lt_row RG.out) GG.out)), range_set (kPt RQ KV34) (Nat.ne_of_lt (Nat.lt_of_lt_of_le (lt_row RQ.out) GG.out))⟩
      clear hK K
      try simp only [zaP, zsT, zsZ, zsS]
      refine wpAnyH_done (by kernel_rfl) ?_ _
      go_wp2_with fail
      go_meet
      case rel => exact ⟨g33, rfl, GG, hide (setRow_heap _ _ _ _ _ _ ZN.out), hide (below_setRow KV34.out GG.out _)⟩
     exact AllReadyH.nil
    exact AllReadyH.nil
   exact AllReadyH.nil
  refine AllReadyH.cons (o := oPtAdd33) rfl (fun K hK => ?_) ?_
  ·
   refine step_runTo (w' := V29.alloc (.cells (num4A 0) 80)) (by rfl) (.pointer (some ⟨V29.heap.size, 0, none⟩)) (hrunAllocE rfl V29) ?_
   obtain ⟨g35, hg35⟩ : ∃ g, g = V29.heap.size := ⟨_, rfl⟩
   have ZN : Hid ((V29.alloc (.cells (num4A 0) 80)).heap[g35]? = some (.cells (num4A 0) 80 (0, 0))) := by rw [hg35]; exact heap_alloc_new _ _
   have KV35 := kAl KV29 (.cells (num4A 0) 80)
   have GG : Hid (W2.heap.size ≤ g35) := by rw [hg35]; exact KV29.out.size
   rw [← hg35]
   obtain ⟨V35, hV35⟩ : ∃ V, V = V29.alloc (.cells (num4A 0) 80) := ⟨_, rfl⟩
   rw [← hV35] at ZN KV35 ⊢
   clear hV35 hg35
   refine hK.out _ _ ?_ (fun hHeld => ?_)
   · exact ⟨kPt RP KV35, kNm RG KV35, kPt RQ KV35⟩
   clear hK K
   try simp only [zaP, zsT, zsZ, zsS]
   refine wpAnyH_ready (rs := [3]) (by kernel_rfl) (by simp) ?_
   refine AllReadyH.cons (o := ⟨some 34, .call ⟨.value (.func 93), #[.tmp 32, .tmp 33], #[80, 80]⟩, 80, "point.go:77", #[zeD 1, zeD 2], none⟩) rfl (fun K hK => ?_) ?_
   ·
    refine step_callTo (by rfl) _ _ (hrunTimes _ _ rfl (.agg (num4A p.t)) (.agg (num4A td)) rfl rfl V35) _ _ (feTimes p.t td Hp.out.t Htd.out V35) (fun V36 HBx => ?_)
    have KV36 := kTr KV35 HBx
    have ZN := hide (row_keep' ZN.out HBx)
    clear HBx
    refine hK.out _ _ ?_ (fun hHeld => ?_)
    · exact ⟨kPt RP KV36, kNm RG KV36, kPt RQ KV36⟩
    clear hK K
    try simp only [zaP, zsT, zsZ, zsS]
    refine wpAnyH_ready (rs := [6]) (by kernel_rfl) (by simp) ?_
    refine AllReadyH.cons (o := ⟨some 37, .call ⟨.value (.func 93), #[.tmp 34, .tmp 36], #[80, 80]⟩, 80, "point.go:77", #[zeD 3, zeD 5, zeC 3], none⟩) rfl (fun K hK => ?_) ?_
    ·
     refine step_callTo (by rfl) _ _ (hrunTimes _ _ rfl (.agg (num4A (mP p.t td))) (.agg (num4A q.t)) rfl rfl V36) _ _ (feTimes (mP p.t td) q.t (mP_lt _ _) Hq.out.t V36) (fun V37 HBx => ?_)
     have KV37 := kTr KV36 HBx
     have ZN := hide (row_keep' ZN.out HBx)
     clear HBx
     refine hK.out _ _ ?_ (fun hHeld => ?_)
     · exact ⟨kPt RP KV37, kNm RG KV37, kPt RQ KV37⟩
     clear hK K
     try simp only [zaP, zsT, zsZ, zsS]
     refine wpAnyH_ready (rs := [8]) (by kernel_rfl) (by simp) ?_
     refine AllReadyH.cons (o := oPtAdd34) rfl (fun K hK => ?_) ?_
     ·
      refine step_store_row _ (by rfl) 80 (.tmp 7) (.tmp 37) (by rfl) (g35) (num4A (mP (mP p.t td) q.t)) (by rfl) (by rfl) 80 _ ZN.out (feSize _) (n4_old _ _) (num4A_all _) ?_
      rw [put_none']
      refine hK.out _ _ ?_ (fun hHeld => ?_)
      · exact ⟨range_set (kPt RP KV37) (Nat.ne_of_lt (Nat.lt_of_lt_of_le (lt_row RP.out) GG.out)), range_set (kNm RG KV37) (Nat.ne_of_lt (Nat.lt_of_lt_of_le (lt_row RG.out) GG.out)), range_set (kPt RQ KV37) (Nat.ne_of_lt (Nat.lt_of_lt_of_le (lt_row RQ.out) GG.out))⟩
      clear hK K
      try simp only [zaP, zsT, zsZ, zsS]
      refine wpAnyH_done (by kernel_rfl) ?_ _
      go_wp2_with fail
      go_meet
      case rel => exact ⟨g35, rfl, GG, hide (setRow_heap _ _ _ _ _ _ ZN.out), hide (below_setRow KV37.out GG.out _)⟩
     exact AllReadyH.nil
    exact AllReadyH.nil
   exact AllReadyH.nil
  exact AllReadyH.nil
 case rest =>
 obtain ⟨g7, rfl, Gg7, R7, Xg7⟩ := hcut
 obtain ⟨W3, hW⟩ : ∃ W, W = wc := ⟨_, rfl⟩
 subst hW
 have lRPg7 : w.heap.size < g7 := Nat.lt_of_lt_of_le (lt_row RP.out) Gg7.out
 have lRQg7 : w.heap.size + 1 < g7 := Nat.lt_of_lt_of_le (lt_row RQ.out) Gg7.out
 have lRZg7 : w.heap.size + 2 < g7 := Nat.lt_of_lt_of_le (lt_row RZ.out) Gg7.out
 have lRGg7 : 5 < g7 := Nat.lt_of_lt_of_le (lt_row RG.out) Gg7.out
 have lR5g7 : g5 < g7 := Nat.lt_of_lt_of_le (lt_row R5.out) Gg7.out
 have lR6g7 : g6 < g7 := Nat.lt_of_lt_of_le (lt_row R6.out) Gg7.out
 have RP := hide (row_below RP.out Xg7.out (lt_row RP.out))
 have RQ := hide (row_below RQ.out Xg7.out (lt_row RQ.out))
 have RZ := hide (row_below RZ.out Xg7.out (lt_row RZ.out))
 have RG := hide (row_below RG.out Xg7.out (lt_row RG.out))
 have R5 := hide (row_below R5.out Xg7.out (lt_row R5.out))
 have R6 := hide (row_below R6.out Xg7.out (lt_row R6.out))
 have BL : Hid (Below w.heap.size w W3) := BL.out.trans (Xg7.out.mono BL.out.size)
 clear Xg7 Gg7
 obtain ⟨c, Ec⟩ : ∃ x, Hid (x = mP (mP p.t td) q.t) := ⟨_, rfl⟩
 have Hc : Hid (c < P) := by rw [Ec.out]; exact mP_lt _ _
 rw [← Ec.out] at R7
 go_wp2_with (first | (refine wpList_load_mid (by rfl) 80 (.tmp 38) (by rfl) (w.heap.size) 8 (by rfl) (nL p.z) _ (rangeP RP.out).2.2.1 under33 rfl (nL_size _) ?_) | (refine wpList_load_mid (by rfl) 80 (.tmp 40) (by rfl) (w.heap.size + 1) 8 (by rfl) (nL q.z) _ (rangeP RQ.out).2.2.1 under33 rfl (nL_size _) ?_))
 simp only [foldN]
 refine (feTimes p.z q.z Hp.out.z Hq.out.z _).mono ?_
 rintro e W4 ⟨rfl, hB4⟩
 have RP := hide (row_keep' RP.out hB4)
 have RQ := hide (row_keep' RQ.out hB4)
 have RZ := hide (row_keep' RZ.out hB4)
 have RG := hide (row_keep' RG.out hB4)
 have R5 := hide (row_keep' R5.out hB4)
 have R6 := hide (row_keep' R6.out hB4)
 have R7 := hide (row_keep' R7.out hB4)
 have BL := kTr BL hB4
 clear hB4
 obtain ⟨z, Ez⟩ : ∃ x, Hid (x = mP p.z q.z) := ⟨_, rfl⟩
 have Hz : Hid (z < P) := by rw [Ez.out]; exact mP_lt _ _
 rw [← Ez.out]
 go_wp2_with (first | (refine wpList_store_row (by rfl) 80 (.tmp 8) (.tmp 42) (by rfl) W4.heap.size (num4A z) (by rfl) (by rfl) 80 _ (heap_alloc_new _ _) (feSize _) (n4_old _ _) (num4A_all _) ?_))
 obtain ⟨g8, hg8⟩ : ∃ q, q = W4.heap.size := ⟨_, rfl⟩
 obtain ⟨W5, hW5⟩ : ∃ W, W = (W4.alloc (.cells (num4A 0) 80)).setRow W4.heap.size (num4A z) := ⟨_, rfl⟩
 have lRPg8 : w.heap.size < g8 := by rw [hg8]; exact lt_row RP.out
 have lRQg8 : w.heap.size + 1 < g8 := by rw [hg8]; exact lt_row RQ.out
 have lRZg8 : w.heap.size + 2 < g8 := by rw [hg8]; exact lt_row RZ.out
 have lRGg8 : 5 < g8 := by rw [hg8]; exact lt_row RG.out
 have lR5g8 : g5 < g8 := by rw [hg8]; exact lt_row R5.out
 have lR6g8 : g6 < g8 := by rw [hg8]; exact lt_row R6.out
 have lR7g8 : g7 < g8 := by rw [hg8]; exact lt_row R7.out
 have RP' : Hid (W5.heap[w.heap.size]? = some (.cells (pA p) 82 (0, 0))) := by rw [hW5]; exact (setRow_other _ _ _ _ (by omega)).trans ((heap_alloc_old _ _ (by omega)).trans RP.out)
 have RQ' : Hid (W5.heap[w.heap.size + 1]? = some (.cells (pA q) 82 (0, 0))) := by rw [hW5]; exact (setRow_other _ _ _ _ (by omega)).trans ((heap_alloc_old _ _ (by omega)).trans RQ.out)
 have RZ' : Hid (W5.heap[w.heap.size + 2]? = some (.cells (pA p0) 82 (0, 0))) := by rw [hW5]; exact (setRow_other _ _ _ _ (by omega)).trans ((heap_alloc_old _ _ (by omega)).trans RZ.out)
 have RG' : Hid (W5.heap[5]? = some (.cells (num4A td) TT frr)) := by rw [hW5]; exact (setRow_other _ _ _ _ (by omega)).trans ((heap_alloc_old _ _ (by omega)).trans RG.out)
 have R5' : Hid (W5.heap[g5]? = some (.cells (num4A a) 80 (0, 0))) := by rw [hW5]; exact (setRow_other _ _ _ _ (by omega)).trans ((heap_alloc_old _ _ (by omega)).trans R5.out)
 have R6' : Hid (W5.heap[g6]? = some (.cells (num4A b) 80 (0, 0))) := by rw [hW5]; exact (setRow_other _ _ _ _ (by omega)).trans ((heap_alloc_old _ _ (by omega)).trans R6.out)
 have R7' : Hid (W5.heap[g7]? = some (.cells (num4A c) 80 (0, 0))) := by rw [hW5]; exact (setRow_other _ _ _ _ (by omega)).trans ((heap_alloc_old _ _ (by omega)).trans R7.out)
 have R8 : Hid (W5.heap[g8]? = some (.cells (num4A z) 80 (0, 0))) := by rw [hW5, hg8]; exact setRow_heap _ _ _ _ _ _ (heap_alloc_new _ _)
 have BL' : Hid (Below w.heap.size w W5) := by rw [hW5]; exact below_setRow (BL.out.alloc BL.out.size _) BL.out.size _
 rw [put_none', ← hW5, ← hg8]
 clear hW5 hg8 BL RP RQ RZ RG R5 R6 R7
 have RP := RP'
 have RQ := RQ'
 have RZ := RZ'
 have RG := RG'
 have R5 := R5'
 have R6 := R6'
 have R7 := R7'
 have BL := BL'
 clear RP' RQ' RZ' RG' R5' R6' R7' BL'
 refine wp_region_held_drew (S := fun w' => w'.rangeAt (g6) 0 (nL b) ∧ w'.rangeAt (g5) 0 (nL a) ∧ w'.rangeAt (g8) 0 (nL z) ∧ w'.rangeAt (g7) 0 (nL c)) (by kernel_rfl) (by exact ⟨rangeN R6.out, rangeN R5.out, rangeN R8.out, rangeN R7.out⟩) (fun hHeld => ?_)
 obtain ⟨V38, hV38⟩ : ∃ V, V = W5.drew := ⟨_, rfl⟩
 rw [← hV38] at hHeld ⊢
 have KV38 : Hid (Below W5.heap.size W5 V38) := by rw [hV38]; exact (Below.refl _ _).drew
 clear hV38
 refine wpAnyH_take (i := 0) (oi := ⟨some 43, .load 80 (.tmp 6), 80, "point.go:79", #[], none⟩) (v := .agg (num4A b)) rfl (by kernel_rfl) (by kernel_rfl) (by kernel_rfl) (fun _ _ _ h => h) (yldN (by rfl) _ rfl (g6) 0 b rfl (fun w h => h.1)) hHeld ?_
 simp only [zaP, zsT, zsZ, zsS]
 refine wpAnyH_take (i := 1) (oi := ⟨some 44, .load 80 (.tmp 5), 80, "point.go:79", #[], none⟩) (v := .agg (num4A a)) rfl (by kernel_rfl) (by kernel_rfl) (by kernel_rfl) (fun _ _ _ h => h) (yldN (by rfl) _ rfl (g5) 0 a rfl (fun w h => h.2.1)) hHeld ?_
 simp only [zaP, zsT, zsZ, zsS]
 refine wpAnyH_take (i := 3) (oi := ⟨some 46, .load 80 (.tmp 8), 80, "point.go:79", #[], none⟩) (v := .agg (num4A z)) rfl (by kernel_rfl) (by kernel_rfl) (by kernel_rfl) (fun _ _ _ h => h) (yldN (by rfl) _ rfl (g8) 0 z rfl (fun w h => h.2.2.1)) hHeld ?_
 simp only [zaP, zsT, zsZ, zsS]
 refine wpAnyH_take (i := 4) (oi := ⟨some 47, .load 80 (.tmp 8), 80, "point.go:79", #[], none⟩) (v := .agg (num4A z)) rfl (by kernel_rfl) (by kernel_rfl) (by kernel_rfl) (fun _ _ _ h => h) (yldN (by rfl) _ rfl (g8) 0 z rfl (fun w h => h.2.2.1)) hHeld ?_
 simp only [zaP, zsT, zsZ, zsS]
 refine wpAnyH_take (i := 6) (oi := ⟨some 49, .load 80 (.tmp 7), 80, "point.go:79", #[], none⟩) (v := .agg (num4A c)) rfl (by kernel_rfl) (by kernel_rfl) (by kernel_rfl) (fun _ _ _ h => h) (yldN (by rfl) _ rfl (g7) 0 c rfl (fun w h => h.2.2.2)) hHeld ?_
 simp only [zaP, zsT, zsZ, zsS]
 refine wpAnyH_take (i := 8) (oi := ⟨some 51, .load 80 (.tmp 8), 80, "point.go:79", #[], none⟩) (v := .agg (num4A z)) rfl (by kernel_rfl) (by kernel_rfl) (by kernel_rfl) (fun _ _ _ h => h) (yldN (by rfl) _ rfl (g8) 0 z rfl (fun w h => h.2.2.1)) hHeld ?_
 simp only [zaP, zsT, zsZ, zsS]
 refine wpAnyH_take (i := 9) (oi := ⟨some 52, .load 80 (.tmp 8), 80, "point.go:79", #[], none⟩) (v := .agg (num4A z)) rfl (by kernel_rfl) (by kernel_rfl) (by kernel_rfl) (fun _ _ _ h => h) (yldN (by rfl) _ rfl (g8) 0 z rfl (fun w h => h.2.2.1)) hHeld ?_
 simp only [zaP, zsT, zsZ, zsS]
 refine wpAnyH_take (i := 11) (oi := ⟨some 54, .load 80 (.tmp 7), 80, "point.go:79", #[], none⟩) (v := .agg (num4A c)) rfl (by kernel_rfl) (by kernel_rfl) (by kernel_rfl) (fun _ _ _ h => h) (yldN (by rfl) _ rfl (g7) 0 c rfl (fun w h => h.2.2.2)) hHeld ?_
 simp only [zaP, zsT, zsZ, zsS]
 refine wpAnyH_take (i := 13) (oi := ⟨some 56, .load 80 (.tmp 6), 80, "point.go:79", #[], none⟩) (v := .agg (num4A b)) rfl (by kernel_rfl) (by kernel_rfl) (by kernel_rfl) (fun _ _ _ h => h) (yldN (by rfl) _ rfl (g6) 0 b rfl (fun w h => h.1)) hHeld ?_
 simp only [zaP, zsT, zsZ, zsS]
 refine wpAnyH_take (i := 14) (oi := ⟨some 57, .load 80 (.tmp 5), 80, "point.go:79", #[], none⟩) (v := .agg (num4A a)) rfl (by kernel_rfl) (by kernel_rfl) (by kernel_rfl) (fun _ _ _ h => h) (yldN (by rfl) _ rfl (g5) 0 a rfl (fun w h => h.2.1)) hHeld ?_
 simp only [zaP, zsT, zsZ, zsS]
 refine wpAnyH_ready (rs := [2]) (by kernel_rfl) (by simp) ?_
 refine AllReadyH.cons (o := ⟨some 45, .call ⟨.value (.func 119), #[.tmp 43, .tmp 44], #[80, 80]⟩, 80, "point.go:79", #[zeD 0, zeD 1], none⟩) rfl (fun K hK => ?_) ?_
 ·
  refine step_callTo (by rfl) _ _ (hrunMinus _ _ rfl (.agg (num4A b)) (.agg (num4A a)) rfl rfl V38) _ _ (feMinus b a Hb.out Ha.out V38) (fun V39 HBx => ?_)
  have KV39 := kTr KV38 HBx
  clear HBx
  refine hK.out _ _ ?_ (fun hHeld => ?_)
  · exact ⟨kNm R6 KV39, kNm R5 KV39, kNm R8 KV39, kNm R7 KV39⟩
  clear hK K
  try simp only [zaP, zsT, zsZ, zsS]
  refine wpAnyH_ready (rs := [5]) (by kernel_rfl) (by simp) ?_
  refine AllReadyH.cons (o := ⟨some 48, .call ⟨.value (.func 120), #[.tmp 46, .tmp 47], #[80, 80]⟩, 80, "point.go:79", #[zeD 3, zeD 4, zeC 2], none⟩) rfl (fun K hK => ?_) ?_
  ·
   refine step_callTo (by rfl) _ _ (hrunPlus _ _ rfl (.agg (num4A z)) (.agg (num4A z)) rfl rfl V39) _ _ (fePlus z z Hz.out Hz.out V39) (fun V40 HBx => ?_)
   have KV40 := kTr KV39 HBx
   clear HBx
   refine hK.out _ _ ?_ (fun hHeld => ?_)
   · exact ⟨kNm R6 KV40, kNm R5 KV40, kNm R8 KV40, kNm R7 KV40⟩
   clear hK K
   try simp only [zaP, zsT, zsZ, zsS]
   refine wpAnyH_ready (rs := [7]) (by kernel_rfl) (by simp) ?_
   refine AllReadyH.cons (o := ⟨some 50, .call ⟨.value (.func 119), #[.tmp 48, .tmp 49], #[80, 80]⟩, 80, "point.go:79", #[zeD 5, zeD 6, zeC 5], none⟩) rfl (fun K hK => ?_) ?_
   ·
    refine step_callTo (by rfl) _ _ (hrunMinus _ _ rfl (.agg (num4A (aP z z))) (.agg (num4A c)) rfl rfl V40) _ _ (feMinus (aP z z) c (aP_lt _ _) Hc.out V40) (fun V41 HBx => ?_)
    have KV41 := kTr KV40 HBx
    clear HBx
    refine hK.out _ _ ?_ (fun hHeld => ?_)
    · exact ⟨kNm R6 KV41, kNm R5 KV41, kNm R8 KV41, kNm R7 KV41⟩
    clear hK K
    try simp only [zaP, zsT, zsZ, zsS]
    refine wpAnyH_ready (rs := [10]) (by kernel_rfl) (by simp) ?_
    refine AllReadyH.cons (o := ⟨some 53, .call ⟨.value (.func 120), #[.tmp 51, .tmp 52], #[80, 80]⟩, 80, "point.go:79", #[zeD 8, zeD 9, zeC 7], none⟩) rfl (fun K hK => ?_) ?_
    ·
     refine step_callTo (by rfl) _ _ (hrunPlus _ _ rfl (.agg (num4A z)) (.agg (num4A z)) rfl rfl V41) _ _ (fePlus z z Hz.out Hz.out V41) (fun V42 HBx => ?_)
     have KV42 := kTr KV41 HBx
     clear HBx
     refine hK.out _ _ ?_ (fun hHeld => ?_)
     · exact ⟨kNm R6 KV42, kNm R5 KV42, kNm R8 KV42, kNm R7 KV42⟩
     clear hK K
     try simp only [zaP, zsT, zsZ, zsS]
     refine wpAnyH_ready (rs := [12]) (by kernel_rfl) (by simp) ?_
     refine AllReadyH.cons (o := ⟨some 55, .call ⟨.value (.func 120), #[.tmp 53, .tmp 54], #[80, 80]⟩, 80, "point.go:79", #[zeD 10, zeD 11, zeC 10], none⟩) rfl (fun K hK => ?_) ?_
     ·
      refine step_callTo (by rfl) _ _ (hrunPlus _ _ rfl (.agg (num4A (aP z z))) (.agg (num4A c)) rfl rfl V42) _ _ (fePlus (aP z z) c (aP_lt _ _) Hc.out V42) (fun V43 HBx => ?_)
      have KV43 := kTr KV42 HBx
      clear HBx
      refine hK.out _ _ ?_ (fun hHeld => ?_)
      · exact ⟨kNm R6 KV43, kNm R5 KV43, kNm R8 KV43, kNm R7 KV43⟩
      clear hK K
      try simp only [zaP, zsT, zsZ, zsS]
      refine wpAnyH_ready (rs := [15]) (by kernel_rfl) (by simp) ?_
      refine AllReadyH.cons (o := ⟨some 58, .call ⟨.value (.func 120), #[.tmp 56, .tmp 57], #[80, 80]⟩, 80, "point.go:79", #[zeD 13, zeD 14, zeC 12], none⟩) rfl (fun K hK => ?_) ?_
      ·
       refine step_callTo (by rfl) _ _ (hrunPlus _ _ rfl (.agg (num4A b)) (.agg (num4A a)) rfl rfl V43) _ _ (fePlus b a Hb.out Ha.out V43) (fun V44 HBx => ?_)
       have KV44 := kTr KV43 HBx
       clear HBx
       refine hK.out _ _ ?_ (fun hHeld => ?_)
       · exact ⟨kNm R6 KV44, kNm R5 KV44, kNm R8 KV44, kNm R7 KV44⟩
       clear hK K
       try simp only [zaP, zsT, zsZ, zsS]
       refine wpAnyH_ready (rs := [16]) (by kernel_rfl) (by simp) ?_
       refine AllReadyH.cons (o := ⟨some 59, .call ⟨.value (.func 121), #[.tmp 45, .tmp 50, .tmp 55, .tmp 58], #[80, 80, 80, 80]⟩, 82, "point.go:79", #[zeD 2, zeD 7, zeD 12, zeD 15, zeC 15], none⟩) rfl (fun K hK => ?_) ?_
       ·
        refine step_callTo (by rfl) _ _ (hrunParts _ _ _ _ rfl (.agg (num4A (sP b a))) (.agg (num4A (sP (aP z z) c))) (.agg (num4A (aP (aP z z) c))) (.agg (num4A (aP b a))) rfl rfl rfl rfl V44) _ _ (partsA (sP b a) (sP (aP z z) c) (aP (aP z z) c) (aP b a) (sP_lt _ _) (sP_lt _ _) (aP_lt _ _) (aP_lt _ _) V44) (fun V45 HBx => ?_)
        have KV45 := kTr KV44 HBx
        clear HBx
        refine hK.out _ _ ?_ (fun hHeld => ?_)
        · exact ⟨kNm R6 KV45, kNm R5 KV45, kNm R8 KV45, kNm R7 KV45⟩
        clear hK K
        try simp only [zaP, zsT, zsZ, zsS]
        refine wpAnyH_ready (rs := [17]) (by kernel_rfl) (by simp) ?_
        refine AllReadyH.cons (o := ⟨none, .store 82 (.tmp 4) (.tmp 59), 0, "point.go:79", #[zeD 16, zeC 16, zeP 0, zeP 1, zeP 2, zeP 3, zeP 4, zeP 5, zeP 6, zeP 7, zeP 8, zeP 9, zeP 10, zeP 11, zeP 12, zeP 13, zeP 14, zeP 15, zeP 16], none⟩) rfl (fun K hK => ?_) ?_
        ·
         refine step_store_row _ (by rfl) 82 (.tmp 4) (.tmp 59) (by rfl) (w.heap.size + 2) (pA (partsP (sP b a) (sP (aP z z) c) (aP (aP z z) c) (aP b a))) (by rfl) (by rfl) 82 _ (hide (row_below RZ.out KV45.out (lt_row RZ.out))).out (pA_size _) (pA_old _ _) (pA_all _) ?_
         rw [put_none']
         refine hK.out _ _ ?_ (fun hHeld => ?_)
         · exact ⟨range_set (kNm R6 KV45) (by omega), range_set (kNm R5 KV45) (by omega), range_set (kNm R8 KV45) (by omega), range_set (kNm R7 KV45) (by omega)⟩
         clear hK K
         try simp only [zaP, zsT, zsZ, zsS]
         refine wpAnyH_done (by kernel_rfl) ?_ _
         go_wp2_with fail
         have RZ9 := hide (row_below RZ.out KV45.out (lt_row RZ.out))
         have BL9 := hide (BL.out.trans (KV45.out.mono BL.out.size))
         refine bodyPost_ret (v := .agg (pA (partsP (sP b a) (sP (aP z z) c) (aP (aP z z) c) (aP b a)))) (results_cell_row Tryz.results79 _ _ (w.heap.size + 2) 82 _ (0, 0) _ (by rfl) (setRow_heap _ _ _ _ _ _ RZ9.out) Tryz.underlying82 rfl (pA_size _)) rfl ⟨?_, below_setRow BL9.out (by omega) _⟩
         rw [Ez.out, Ec.out, Eb.out, Ea.out, Etd.out]; rfl
        exact AllReadyH.nil
       exact AllReadyH.nil
      exact AllReadyH.nil
     exact AllReadyH.nil
    exact AllReadyH.nil
   exact AllReadyH.nil
  exact AllReadyH.nil
 exact AllReadyH.nil
end
end Go.Proofs.YtccgfabojbjmjaaGreatDoor
