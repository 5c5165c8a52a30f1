import Derived.Test.YtccgfabojbjmjaaGreatDoorSg45
namespace Go.Proofs.YtccgfabojbjmjaaGreatDoor
open Go.RowKit
abbrev oRefKey4 : Oper := ⟨some 10, .move (.tmp 14), 145, "point.go:67", #[zeD 3], none⟩
abbrev oRefKey5 : Oper := ⟨some 15, .extract (.tmp 10) 0, 98, "point.go:67", #[zeD 4], none⟩
abbrev oRefKey6 : Oper := ⟨some 16, .extract (.tmp 10) 1, 4, "point.go:67", #[zeD 4, ⟨8, .gcOnly .lateStores⟩], none⟩
abbrev oRefKey7 : Oper := ⟨some 4, .alloc 98, 0, "point.go:67", #[], none⟩
abbrev oRefKey8 : Oper := ⟨none, .store 98 (.tmp 4) (.tmp 15), 0, "point.go:67", #[zeD 7, zeD 5, zeC 3, zeP 0, zeP 1, zeP 2, zeP 3, zeP 4, zeP 5, ⟨6, .textOnly .lateStores⟩, zeP 7], none⟩
abbrev oRefKey9 : Oper := ⟨some 5, .assign (.tmp 16), 4, "point.go:67", #[zeD 6, zeC 8, zeP 0, zeP 1, zeP 2, zeP 3, zeP 4, zeP 5, zeP 6, zeP 7, zeP 8], none⟩
abbrev oRefKey15 : Oper := ⟨some 7, .alloc 98, 0, "sign.go:27", #[], none⟩
abbrev oRefKey16 : Oper := ⟨none, .store 98 (.tmp 7) (.tmp 21), 0, "sign.go:27", #[zeD 5, zeD 4, zeC 4, zeP 0, zeP 1, zeP 2, zeP 3, zeP 4, zeP 5], none⟩
theorem hrunTextD {a : Act} {o : Oper} (x y : Operand) (ho : o.op = .call { callee := .value (.func 69), args := #[x, y], argTypes := #[95, 4] }) (v1 v2 : Value) (hx : a.eval x = v1) (hy : a.eval y = v2) (w : World) :
  (execOp a.eval o).run Tryz.prog w = .ok (.enter 69 #[v1, v2]) w := by
 unfold execOp
 simp only [ho]
 subst hx hy
 go_simp
theorem hrunPof {a : Act} {o : Oper} (x y : Operand) (ho : o.op = .call { callee := .value (.func 68), args := #[x, y], argTypes := #[95, 9] }) (v1 v2 : Value) (hx : a.eval x = v1) (hy : a.eval y = v2) (w : World) :
  (execOp a.eval o).run Tryz.prog w = .ok (.enter 68 #[v1, v2]) w := by
 unfold execOp
 simp only [ho]
 subst hx hy
 go_simp
theorem hrunBaseD {a : Act} {o : Oper} (x : Operand) (ho : o.op = .call { callee := .value (.func 35), args := #[x], argTypes := #[95] }) (v1 : Value) (hx : a.eval x = v1) (w : World) :
  (execOp a.eval o).run Tryz.prog w = .ok (.enter 35 #[v1]) w := by
 unfold execOp
 simp only [ho]
 subst hx
 go_simp
def bqT : ByteArray := qaL (leB (qcj (mP 4 (qcq 5)) false) 32)
theorem textB (y : Nat) (hy : y < P) (T : ByteArray) (hT : T = qaL (leB (qcj y false) 32)) (w : World) :
  Calls Tryz.prog 69 #[.agg (fA y), .bool false] w fun e w' => e = .returned (.string T) ∧ Below w.heap.size w w' := by rw [hT]; exact textA y false hy w
theorem pofT (d : Nat) (hd : d < P) (T : ByteArray) (q : Q3) (b : Bool) (hq : q = pofQ d T) (hb : b = qd7 d T) (w : World) :
  Calls Tryz.prog 68 #[.agg (fA d), .string T] w fun e w' => e = .returned (.tuple #[.agg (qA q), .bool b]) ∧ Below w.heap.size w w' := by rw [hq, hb]; exact pointOfA d T hd w
theorem k4 : 4 < P := by decide
theorem k5 : 5 < P := by decide
section
attribute [local irreducible] fA fL qA qL sA sLs crvD qd7 pofQ codeD tmQ
set_option maxRecDepth 100000 in
set_option maxHeartbeats 4000000 in
theorem refBase (d : Nat) (hd : d = crvD) (bqD : Q3) (hq : bqD = pofQ crvD bqT) (w : World) :
  Calls Tryz.prog 35 #[.agg (fA d)] w fun e w' => e = .returned (.agg (qA bqD)) ∧ Below w.heap.size w w' := by
 have hz := qcy
 have hzq := zeroQ
 have Ed := qaf hd
 have Hd : Hid (d < P) := by rw [Ed.out]; exact crvD_lt
 have EQ0 := qaf hq
 clear hd hq
 go_enter Tryz.func35, Tryz.ntmps35
 go_upto_region 1 with fail
 generalize hW0 : World.alloc _ _ = W0
 have RD : Hid (W0.heap[w.heap.size]? = some (.cells (fA d) 95 (0, 0))) := by rw [← hW0]; exact heap_alloc2_old _ _ _
 have RZ : Hid (W0.heap[w.heap.size + 1]? = some (.cells (qA q0) 98 (0, 0))) := by rw [← hW0]; exact heap_alloc2_new _ _ _
 have BL : Hid (Below w.heap.size w W0) := by rw [← hW0]; show Below _ _ _; go_grown
 clear hW0
 go_wp2_with fail
 refine (smallA 4 (by decide) _).mono ?_
 rintro e W1 ⟨rfl, hB⟩
 have RD := qaf (qaa RD.out hB)
 have RZ := qaf (qaa RZ.out hB)
 have BL := kTr BL hB
 clear hB
 obtain ⟨x4, E4⟩ : ∃ x, Hid (x = 4) := ⟨_, qaf rfl⟩
 have H4 : Hid (x4 < P) := by rw [E4.out]; exact k4
 rw [← E4.out]
 go_wp2_with fail
 refine (smallA 5 (by decide) _).mono ?_
 rintro e W2 ⟨rfl, hB⟩
 have RD := qaf (qaa RD.out hB)
 have RZ := qaf (qaa RZ.out hB)
 have BL := kTr BL hB
 clear hB
 go_wp2_with fail
 refine (inverseA 5 k5 _).mono ?_
 rintro e W3 ⟨rfl, hB⟩
 have RD := qaf (qaa RD.out hB)
 have RZ := qaf (qaa RZ.out hB)
 have BL := kTr BL hB
 clear hB
 obtain ⟨i5, E5⟩ : ∃ x, Hid (x = qcq 5) := ⟨_, qaf rfl⟩
 have H5 : Hid (i5 < P) := by rw [E5.out]; exact qek _
 rw [← E5.out]
 go_wp2_with fail
 refine (qd1 x4 i5 H4.out H5.out _).mono ?_
 rintro e W4 ⟨rfl, hB⟩
 have RD := qaf (qaa RD.out hB)
 have RZ := qaf (qaa RZ.out hB)
 have BL := kTr BL hB
 clear hB
 obtain ⟨y, Ey⟩ : ∃ x, Hid (x = mP x4 i5) := ⟨_, qaf rfl⟩
 have Hy : Hid (y < P) := by rw [Ey.out]; exact qaB _ _
 rw [← Ey.out]
 go_upto_region 2 with (first | (refine wpList_store_row (by rfl) 95 (.tmp 3) (.tmp 9) (by rfl) W4.heap.size (fA y) (by rfl) (by rfl) 95 _ (heap_alloc_new _ _) (qat _) (qaU _ _) (qaS _) ?_))
 try rw [qal]
 obtain ⟨g3, hg3⟩ : ∃ q, q = W4.heap.size := ⟨_, rfl⟩
 generalize hW5 : World.setRow _ _ _ = W5
 have K5 : Hid (Below W4.heap.size W4 W5) := by rw [← hW5]; exact below_setRow ((Below.refl _ _).alloc (Nat.le_refl _) _) (Nat.le_refl _) _
 have RY : Hid (W5.heap[g3]? = some (.cells (fA y) 95 (0, 0))) := by rw [← hW5, hg3]; exact setRow_heap _ _ _ _ _ _ (heap_alloc_new _ _)
 have RD := qaf (qaa RD.out K5.out)
 have RZ := qaf (qaa RZ.out K5.out)
 have BL : Hid (Below w.heap.size w W5) := BL.out.trans (K5.out.mono BL.out.size)
 rw [← hg3]
 clear hW5 hg3 K5
 obtain ⟨T, ET⟩ : ∃ T, Hid (T = qaL (leB (qcj y false) 32)) := ⟨_, qaf rfl⟩
 have ETb : Hid (T = bqT) := by show _ = _; rw [ET.out, Ey.out, E4.out, E5.out]; rfl
 have EQ : Hid (bqD = pofQ d T) := by show _ = _; rw [EQ0.out, Ed.out, ETb.out]
 obtain ⟨b0, EB⟩ : ∃ c, Hid (c = qd7 d T) := ⟨_, qaf rfl⟩
 have lD := qae RD.out
 have lY := qae RY.out
 go_cut [4] from 10 to 16 (fun s' wx => ∃ g, s' = .pointer (some ⟨g, 0, none⟩) ∧ Hid (wx.heap[g]? = some (.cells (qA bqD) 98 (0, 0))) ∧ Hid (Below W5.heap.size W5 wx))
 case first =>
  refine wp_region_held_drew (S := fun w' => w'.rangeAt w.heap.size 0 (fL d) ∧ w'.rangeAt g3 0 (fL y)) (by kernel_rfl) ⟨qaW RD.out, qaW RY.out⟩ (fun hHeld => ?_)
  have KV1 : Hid (Below W5.heap.size W5 W5.drew) := (Below.refl _ _).drew
  obtain ⟨V1, hV1⟩ : ∃ V, V = W5.drew := ⟨_, rfl⟩
  rw [← hV1] at hHeld KV1 ⊢
  clear hV1
  refine wpAnyH_take (i := 0) (oi := ⟨some 11, .load 95 (.tmp 1), 95, "point.go:67", #[], none⟩) (v := .agg (fA d)) rfl (by kernel_rfl) (by kernel_rfl) (by kernel_rfl) (fun _ _ _ h => h) (qdB (by rfl) _ rfl w.heap.size 0 d rfl (fun w h => h.1)) hHeld ?_
  simp only [zaP, zsT, zsZ, zsS]
  refine wpAnyH_take (i := 1) (oi := ⟨some 12, .load 95 (.tmp 3), 95, "point.go:67", #[], none⟩) (v := .agg (fA y)) rfl (by kernel_rfl) (by kernel_rfl) (by kernel_rfl) (fun _ _ _ h => h) (qdB (by rfl) _ rfl g3 0 y rfl (fun w h => h.2)) hHeld ?_
  simp only [zaP, zsT, zsZ, zsS]
  refine wpAnyH_ready (rs := [2, 7]) (by kernel_rfl) (by simp) ?_
  refine AllReadyH.cons (o := ⟨some 13, .call ⟨.value (.func 69), #[.tmp 12, .const (.bool false)], #[95, 4]⟩, 9, "point.go:67", #[zeD 1], none⟩) rfl (fun K hK => ?_) ?_
  ·
   refine qag (by rfl) _ _ (hrunTextD _ _ rfl (.agg (fA y)) (.bool false) rfl rfl V1) _ _ (textB y Hy.out T ET.out V1) (fun V2 HBx => ?_)
   have KV2 := kTr KV1 HBx
   clear HBx
   refine hK.out _ _ ?_ (fun hHeld => ?_)
   · exact ⟨qad (qaW RD.out) KV2.out lD, qad (qaW RY.out) KV2.out lY⟩
   clear hK K
   try simp only [zaP, zsT, zsZ, zsS]
   refine wpAnyH_ready (rs := [3, 7]) (by kernel_rfl) (by simp) ?_
   refine AllReadyH.cons (o := ⟨some 14, .call ⟨.value (.func 68), #[.tmp 11, .tmp 13], #[95, 9]⟩, 145, "point.go:67", #[zeD 0, zeD 2, zeC 2], none⟩) rfl (fun K hK => ?_) ?_
   ·
    refine qag (by rfl) _ _ (hrunPof _ _ rfl (.agg (fA d)) (.string T) rfl rfl V2) _ _ (pofT d Hd.out T bqD b0 EQ.out EB.out V2) (fun V3 HBx => ?_)
    have KV3 := kTr KV2 HBx
    clear HBx
    refine hK.out _ _ ?_ (fun hHeld => ?_)
    · exact ⟨qad (qaW RD.out) KV3.out lD, qad (qaW RY.out) KV3.out lY⟩
    clear hK K
    try simp only [zaP, zsT, zsZ, zsS]
    refine wpAnyH_take (i := 4) (oi := oRefKey4) (v := .tuple #[.agg (qA bqD), .bool b0]) rfl (by kernel_rfl) (by kernel_rfl) (by kernel_rfl) (fun _ _ _ h => h) (Or.inl ⟨by rfl, fun w _ => by go_simp⟩) hHeld ?_
    simp only [zaP, zsT, zsZ, zsS]
    refine wpAnyH_take (i := 5) (oi := oRefKey5) (v := .agg (qA bqD)) rfl (by kernel_rfl) (by kernel_rfl) (by kernel_rfl) (fun _ _ _ h => h) (Or.inl ⟨by rfl, fun w _ => by go_simp⟩) hHeld ?_
    simp only [zaP, zsT, zsZ, zsS]
    refine wpAnyH_take (i := 6) (oi := oRefKey6) (v := .bool b0) rfl (by kernel_rfl) (by kernel_rfl) (by kernel_rfl) (fun _ _ _ h => h) (Or.inl ⟨by rfl, fun w _ => by go_simp⟩) hHeld ?_
    simp only [zaP, zsT, zsZ, zsS]
    refine wpAnyH_ready (rs := [7]) (by kernel_rfl) (by simp) ?_
    refine AllReadyH.cons (o := oRefKey7) rfl (fun K hK => ?_) AllReadyH.nil
    refine qam (w' := V3.alloc (.cells (qA q0) 98)) (by rfl) (.pointer (some ⟨V3.heap.size, 0, none⟩)) (qbH rfl V3) ?_
    obtain ⟨gg4, hgg4⟩ : ∃ g, g = V3.heap.size := ⟨_, rfl⟩
    have ZN : Hid ((V3.alloc (.cells (qA q0) 98)).heap[gg4]? = some (.cells (qA q0) 98 (0, 0))) := by rw [hgg4]; exact heap_alloc_new _ _
    have KV4 : Hid (Below W5.heap.size W5 (V3.alloc (.cells (qA q0) 98))) := KV3.out.alloc KV3.out.size _
    have GG : Hid (W5.heap.size ≤ gg4) := by rw [hgg4]; exact KV3.out.size
    rw [← hgg4]
    obtain ⟨V4, hV4⟩ : ∃ V, V = V3.alloc (.cells (qA q0) 98) := ⟨_, rfl⟩
    rw [← hV4] at ZN KV4 ⊢
    clear hV4 hgg4
    refine hK.out _ _ ?_ (fun hHeld => ?_)
    · exact ⟨qad (qaW RD.out) KV4.out lD, qad (qaW RY.out) KV4.out lY⟩
    clear hK K
    try simp only [zaP, zsT, zsZ, zsS]
    refine wpAnyH_ready (rs := [8]) (by kernel_rfl) (by simp) ?_
    refine AllReadyH.cons (o := oRefKey8) rfl (fun K hK => ?_) AllReadyH.nil
    refine qaj _ (by rfl) 98 (.tmp 4) (.tmp 15) (by rfl) (gg4) (qA bqD) (by rfl) (by rfl) 98 _ ZN.out (qaJ _) (qbz _ _) (qbB _) ?_
    rw [qal]
    refine hK.out _ _ ?_ (fun hHeld => ?_)
    · exact ⟨qak (qad (qaW RD.out) KV4.out lD) (Nat.ne_of_lt (Nat.lt_of_lt_of_le lD GG.out)), qak (qad (qaW RY.out) KV4.out lY) (Nat.ne_of_lt (Nat.lt_of_lt_of_le lY GG.out))⟩
    clear hK K
    try simp only [zaP, zsT, zsZ, zsS]
    refine wpAnyH_take (i := 9) (oi := oRefKey9) (v := .bool b0) rfl (by kernel_rfl) (by kernel_rfl) (by kernel_rfl) (fun _ _ _ h => h) (Or.inl ⟨by rfl, fun w _ => by go_simp⟩) hHeld ?_
    simp only [zaP, zsT, zsZ, zsS]
    refine wpAnyH_done (by kernel_rfl) ?_ _
    go_wp2_with fail
    go_meet
    case rel => exact ⟨gg4, rfl, qaf (setRow_heap _ _ _ _ _ _ ZN.out), qaf (below_setRow KV4.out GG.out _)⟩
   refine AllReadyH.cons (o := oRefKey7) rfl (fun K hK => ?_) ?_
   ·
    refine qam (w' := V2.alloc (.cells (qA q0) 98)) (by rfl) (.pointer (some ⟨V2.heap.size, 0, none⟩)) (qbH rfl V2) ?_
    obtain ⟨gg6, hgg6⟩ : ∃ g, g = V2.heap.size := ⟨_, rfl⟩
    have ZN : Hid ((V2.alloc (.cells (qA q0) 98)).heap[gg6]? = some (.cells (qA q0) 98 (0, 0))) := by rw [hgg6]; exact heap_alloc_new _ _
    have KV6 : Hid (Below W5.heap.size W5 (V2.alloc (.cells (qA q0) 98))) := KV2.out.alloc KV2.out.size _
    have GG : Hid (W5.heap.size ≤ gg6) := by rw [hgg6]; exact KV2.out.size
    rw [← hgg6]
    obtain ⟨V6, hV6⟩ : ∃ V, V = V2.alloc (.cells (qA q0) 98) := ⟨_, rfl⟩
    rw [← hV6] at ZN KV6 ⊢
    clear hV6 hgg6
    refine hK.out _ _ ?_ (fun hHeld => ?_)
    · exact ⟨qad (qaW RD.out) KV6.out lD, qad (qaW RY.out) KV6.out lY⟩
    clear hK K
    try simp only [zaP, zsT, zsZ, zsS]
    refine wpAnyH_ready (rs := [3]) (by kernel_rfl) (by simp) ?_
    refine AllReadyH.cons (o := ⟨some 14, .call ⟨.value (.func 68), #[.tmp 11, .tmp 13], #[95, 9]⟩, 145, "point.go:67", #[zeD 0, zeD 2, zeC 2], none⟩) rfl (fun K hK => ?_) AllReadyH.nil
    refine qag (by rfl) _ _ (hrunPof _ _ rfl (.agg (fA d)) (.string T) rfl rfl V6) _ _ (pofT d Hd.out T bqD b0 EQ.out EB.out V6) (fun V7 HBx => ?_)
    have KV7 := kTr KV6 HBx
    have ZN : Hid (V7.heap[gg6]? = _) := qaa ZN.out HBx
    clear HBx
    refine hK.out _ _ ?_ (fun hHeld => ?_)
    · exact ⟨qad (qaW RD.out) KV7.out lD, qad (qaW RY.out) KV7.out lY⟩
    clear hK K
    try simp only [zaP, zsT, zsZ, zsS]
    refine wpAnyH_take (i := 4) (oi := oRefKey4) (v := .tuple #[.agg (qA bqD), .bool b0]) rfl (by kernel_rfl) (by kernel_rfl) (by kernel_rfl) (fun _ _ _ h => h) (Or.inl ⟨by rfl, fun w _ => by go_simp⟩) hHeld ?_
    simp only [zaP, zsT, zsZ, zsS]
    refine wpAnyH_take (i := 5) (oi := oRefKey5) (v := .agg (qA bqD)) rfl (by kernel_rfl) (by kernel_rfl) (by kernel_rfl) (fun _ _ _ h => h) (Or.inl ⟨by rfl, fun w _ => by go_simp⟩) hHeld ?_
    simp only [zaP, zsT, zsZ, zsS]
    refine wpAnyH_take (i := 6) (oi := oRefKey6) (v := .bool b0) rfl (by kernel_rfl) (by kernel_rfl) (by kernel_rfl) (fun _ _ _ h => h) (Or.inl ⟨by rfl, fun w _ => by go_simp⟩) hHeld ?_
    simp only [zaP, zsT, zsZ, zsS]
    refine wpAnyH_ready (rs := [8]) (by kernel_rfl) (by simp) ?_
    refine AllReadyH.cons (o := oRefKey8) rfl (fun K hK => ?_) AllReadyH.nil
    refine qaj _ (by rfl) 98 (.tmp 4) (.tmp 15) (by rfl) (gg6) (qA bqD) (by rfl) (by rfl) 98 _ ZN.out (qaJ _) (qbz _ _) (qbB _) ?_
    rw [qal]
    refine hK.out _ _ ?_ (fun hHeld => ?_)
    · exact ⟨qak (qad (qaW RD.out) KV7.out lD) (Nat.ne_of_lt (Nat.lt_of_lt_of_le lD GG.out)), qak (qad (qaW RY.out) KV7.out lY) (Nat.ne_of_lt (Nat.lt_of_lt_of_le lY GG.out))⟩
    clear hK K
    try simp only [zaP, zsT, zsZ, zsS]
    refine wpAnyH_take (i := 9) (oi := oRefKey9) (v := .bool b0) rfl (by kernel_rfl) (by kernel_rfl) (by kernel_rfl) (fun _ _ _ h => h) (Or.inl ⟨by rfl, fun w _ => by go_simp⟩) hHeld ?_
    simp only [zaP, zsT, zsZ, zsS]
    refine wpAnyH_done (by kernel_rfl) ?_ _
    go_wp2_with fail
    go_meet
    case rel => exact ⟨gg6, rfl, qaf (setRow_heap _ _ _ _ _ _ ZN.out), qaf (below_setRow KV7.out GG.out _)⟩
   exact AllReadyH.nil
  refine AllReadyH.cons (o := oRefKey7) rfl (fun K hK => ?_) ?_
  ·
   refine qam (w' := V1.alloc (.cells (qA q0) 98)) (by rfl) (.pointer (some ⟨V1.heap.size, 0, none⟩)) (qbH rfl V1) ?_
   obtain ⟨gg9, hgg9⟩ : ∃ g, g = V1.heap.size := ⟨_, rfl⟩
   have ZN : Hid ((V1.alloc (.cells (qA q0) 98)).heap[gg9]? = some (.cells (qA q0) 98 (0, 0))) := by rw [hgg9]; exact heap_alloc_new _ _
   have KV9 : Hid (Below W5.heap.size W5 (V1.alloc (.cells (qA q0) 98))) := KV1.out.alloc KV1.out.size _
   have GG : Hid (W5.heap.size ≤ gg9) := by rw [hgg9]; exact KV1.out.size
   rw [← hgg9]
   obtain ⟨V9, hV9⟩ : ∃ V, V = V1.alloc (.cells (qA q0) 98) := ⟨_, rfl⟩
   rw [← hV9] at ZN KV9 ⊢
   clear hV9 hgg9
   refine hK.out _ _ ?_ (fun hHeld => ?_)
   · exact ⟨qad (qaW RD.out) KV9.out lD, qad (qaW RY.out) KV9.out lY⟩
   clear hK K
   try simp only [zaP, zsT, zsZ, zsS]
   refine wpAnyH_ready (rs := [2]) (by kernel_rfl) (by simp) ?_
   refine AllReadyH.cons (o := ⟨some 13, .call ⟨.value (.func 69), #[.tmp 12, .const (.bool false)], #[95, 4]⟩, 9, "point.go:67", #[zeD 1], none⟩) rfl (fun K hK => ?_) AllReadyH.nil
   refine qag (by rfl) _ _ (hrunTextD _ _ rfl (.agg (fA y)) (.bool false) rfl rfl V9) _ _ (textB y Hy.out T ET.out V9) (fun V10 HBx => ?_)
   have KV10 := kTr KV9 HBx
   have ZN : Hid (V10.heap[gg9]? = _) := qaa ZN.out HBx
   clear HBx
   refine hK.out _ _ ?_ (fun hHeld => ?_)
   · exact ⟨qad (qaW RD.out) KV10.out lD, qad (qaW RY.out) KV10.out lY⟩
   clear hK K
   try simp only [zaP, zsT, zsZ, zsS]
   refine wpAnyH_ready (rs := [3]) (by kernel_rfl) (by simp) ?_
   refine AllReadyH.cons (o := ⟨some 14, .call ⟨.value (.func 68), #[.tmp 11, .tmp 13], #[95, 9]⟩, 145, "point.go:67", #[zeD 0, zeD 2, zeC 2], none⟩) rfl (fun K hK => ?_) AllReadyH.nil
   refine qag (by rfl) _ _ (hrunPof _ _ rfl (.agg (fA d)) (.string T) rfl rfl V10) _ _ (pofT d Hd.out T bqD b0 EQ.out EB.out V10) (fun V11 HBx => ?_)
   have KV11 := kTr KV10 HBx
   have ZN : Hid (V11.heap[gg9]? = _) := qaa ZN.out HBx
   clear HBx
   refine hK.out _ _ ?_ (fun hHeld => ?_)
   · exact ⟨qad (qaW RD.out) KV11.out lD, qad (qaW RY.out) KV11.out lY⟩
   clear hK K
   try simp only [zaP, zsT, zsZ, zsS]
   refine wpAnyH_take (i := 4) (oi := oRefKey4) (v := .tuple #[.agg (qA bqD), .bool b0]) rfl (by kernel_rfl) (by kernel_rfl) (by kernel_rfl) (fun _ _ _ h => h) (Or.inl ⟨by rfl, fun w _ => by go_simp⟩) hHeld ?_
   simp only [zaP, zsT, zsZ, zsS]
   refine wpAnyH_take (i := 5) (oi := oRefKey5) (v := .agg (qA bqD)) rfl (by kernel_rfl) (by kernel_rfl) (by kernel_rfl) (fun _ _ _ h => h) (Or.inl ⟨by rfl, fun w _ => by go_simp⟩) hHeld ?_
   simp only [zaP, zsT, zsZ, zsS]
   refine wpAnyH_take (i := 6) (oi := oRefKey6) (v := .bool b0) rfl (by kernel_rfl) (by kernel_rfl) (by kernel_rfl) (fun _ _ _ h => h) (Or.inl ⟨by rfl, fun w _ => by go_simp⟩) hHeld ?_
   simp only [zaP, zsT, zsZ, zsS]
   refine wpAnyH_ready (rs := [8]) (by kernel_rfl) (by simp) ?_
   refine AllReadyH.cons (o := oRefKey8) rfl (fun K hK => ?_) AllReadyH.nil
   refine qaj _ (by rfl) 98 (.tmp 4) (.tmp 15) (by rfl) (gg9) (qA bqD) (by rfl) (by rfl) 98 _ ZN.out (qaJ _) (qbz _ _) (qbB _) ?_
   rw [qal]
   refine hK.out _ _ ?_ (fun hHeld => ?_)
   · exact ⟨qak (qad (qaW RD.out) KV11.out lD) (Nat.ne_of_lt (Nat.lt_of_lt_of_le lD GG.out)), qak (qad (qaW RY.out) KV11.out lY) (Nat.ne_of_lt (Nat.lt_of_lt_of_le lY GG.out))⟩
   clear hK K
   try simp only [zaP, zsT, zsZ, zsS]
   refine wpAnyH_take (i := 9) (oi := oRefKey9) (v := .bool b0) rfl (by kernel_rfl) (by kernel_rfl) (by kernel_rfl) (fun _ _ _ h => h) (Or.inl ⟨by rfl, fun w _ => by go_simp⟩) hHeld ?_
   simp only [zaP, zsT, zsZ, zsS]
   refine wpAnyH_done (by kernel_rfl) ?_ _
   go_wp2_with fail
   go_meet
   case rel => exact ⟨gg9, rfl, qaf (setRow_heap _ _ _ _ _ _ ZN.out), qaf (below_setRow KV11.out GG.out _)⟩
  exact AllReadyH.nil
 case rest =>
  obtain ⟨g4, rfl, RN, X9⟩ := hcut
  have RZ := qaf (qaa RZ.out X9.out)
  have BL : Hid (Below w.heap.size w wc) := BL.out.trans (X9.out.mono BL.out.size)
  go_wp2_with (first
   | (refine wpList_load_row (by rfl) 98 (.tmp 4) (by rfl) g4 (by rfl) 98 (qA bqD) (0, 0) _ RN.out Tryz.underlying98 rfl (qaJ _) ?_)
   | (refine wpList_store_row (by rfl) 98 (.tmp 2) (.tmp 17) (by rfl) (w.heap.size + 1) (qA bqD) (by rfl) (by rfl) 98 _ RZ.out (qaJ _) (qbz _ _) (qbB _) ?_))
  refine bodyPost_ret (v := .agg (qA bqD)) (results_cell_row Tryz.results35 _ _ (w.heap.size + 1) 98 _ (0, 0) _ (by rfl) (setRow_heap _ _ _ _ _ _ RZ.out) Tryz.underlying98 rfl (qaJ _)) rfl ⟨rfl, below_setRow BL.out (by omega) _⟩
noncomputable def rkN (s : ByteArray) : List UInt8 := sdL ((qa5 (qax s)).take 32)
noncomputable def rkS (s : ByteArray) : ByteArray := if s.size = 32 then codeD (tmQ crvD (rkN s) (pofQ crvD bqT) 256) else ⟨#[]⟩
def rkE (s : ByteArray) : Int := if s.size = 32 then 0 else 1
set_option maxRecDepth 100000 in
set_option maxHeartbeats 4000000 in
theorem refKeyA (s : ByteArray) (w : World) :
  Calls Tryz.prog 9 #[.string s] w fun e w' => e = .returned (.tuple #[.string (rkS s), .int .i64 (rkE s)]) ∧ Below w.heap.size w w' := by
 have hz := qcy
 have hzq := zeroQ
 have hzs := zeroS
 go_enter Tryz.func9, Tryz.ntmps9
 by_cases h32 : s.size = 32
 ·
  have b32 : ((s.size : Int) != 32) = false := by rw [h32]; rfl
  have HS := qaf h32
  clear h32
  go_wp2_with fail
  refine (refSecret s (by rw [HS.out]; decide) _).mono ?_
  rintro e W1 ⟨rfl, hB⟩
  have BL := qaf hB
  clear hB
  obtain ⟨l, El⟩ : ∃ l, Hid (l = rkN s) := ⟨_, qaf rfl⟩
  rw [show sdL ((qa5 (qax s)).take 32) = l from El.out.symm]
  obtain ⟨pf, _⟩ : ∃ l, Hid (l = qaL ((qa5 (qax s)).drop 32)) := ⟨_, qaf rfl⟩
  go_upto_region 4 with (first | (refine wpList_store_row (by rfl) 91 (.tmp 4) (.tmp 14) (by rfl) W1.heap.size (sA l) (by rfl) (by rfl) 91 _ (heap_alloc_new _ _) (qbo _) (qeb _) (qd3 _) ?_))
  try rw [qal]
  obtain ⟨g4, hg4⟩ : ∃ q, q = W1.heap.size := ⟨_, rfl⟩
  generalize hW2 : World.setRow _ _ _ = W2
  have K2 : Hid (Below W1.heap.size W1 W2) := by rw [← hW2]; exact below_setRow ((Below.refl _ _).alloc (Nat.le_refl _) _) (Nat.le_refl _) _
  have RS : Hid (W2.heap[g4]? = some (.cells (sA l) 91 (0, 0))) := by rw [← hW2, hg4]; exact setRow_heap _ _ _ _ _ _ (heap_alloc_new _ _)
  have BL : Hid (Below w.heap.size w W2) := BL.out.trans (K2.out.mono BL.out.size)
  rw [← hg4]
  clear hW2 hg4 K2
  go_wp2_with fail
  refine (curveA _).mono ?_
  rintro e W3 ⟨rfl, hB⟩
  have RS := qaf (qaa RS.out hB)
  have BL := kTr BL hB
  clear hB
  obtain ⟨d, Ed⟩ : ∃ d, Hid (d = crvD) := ⟨_, qaf rfl⟩
  have Hd : Hid (d < P) := by rw [Ed.out]; exact crvD_lt
  rw [← Ed.out]
  go_upto_region 5 with (first | (refine wpList_store_row (by rfl) 95 (.tmp 6) (.tmp 16) (by rfl) W3.heap.size (fA d) (by rfl) (by rfl) 95 _ (heap_alloc_new _ _) (qat _) (qaU _ _) (qaS _) ?_))
  try rw [qal]
  obtain ⟨g6, hg6⟩ : ∃ q, q = W3.heap.size := ⟨_, rfl⟩
  generalize hW4 : World.setRow _ _ _ = W4
  have K4 : Hid (Below W3.heap.size W3 W4) := by rw [← hW4]; exact below_setRow ((Below.refl _ _).alloc (Nat.le_refl _) _) (Nat.le_refl _) _
  have RD : Hid (W4.heap[g6]? = some (.cells (fA d) 95 (0, 0))) := by rw [← hW4, hg6]; exact setRow_heap _ _ _ _ _ _ (heap_alloc_new _ _)
  have RS := qaf (qaa RS.out K4.out)
  have BL : Hid (Below w.heap.size w W4) := BL.out.trans (K4.out.mono BL.out.size)
  rw [← hg6]
  clear hW4 hg6 K4
  obtain ⟨Bq, EBq⟩ : ∃ d, Hid (d = pofQ crvD bqT) := ⟨_, qaf rfl⟩
  have HBq : Hid Bq.Ok := by rw [EBq.out]; exact pofQ_ok _ _
  have lD := qae RD.out
  have lS := qae RS.out
  go_cut [7] from 17 to 21 (fun s' wx => ∃ g, s' = .pointer (some ⟨g, 0, none⟩) ∧ Hid (wx.heap[g]? = some (.cells (qA (tmQ d l Bq 256)) 98 (0, 0))) ∧ Hid (Below W4.heap.size W4 wx))
  case first =>
   refine wp_region_held_drew (S := fun w' => w'.rangeAt g6 0 (fL d) ∧ w'.rangeAt g4 0 (sLs l)) (by kernel_rfl) ⟨qaW RD.out, qbn RS.out⟩ (fun hHeld => ?_)
   have KV1 : Hid (Below W4.heap.size W4 W4.drew) := (Below.refl _ _).drew
   obtain ⟨V1, hV1⟩ : ∃ V, V = W4.drew := ⟨_, rfl⟩
   rw [← hV1] at hHeld KV1 ⊢
   clear hV1
   refine wpAnyH_take (i := 0) (oi := ⟨some 17, .load 95 (.tmp 6), 95, "sign.go:27", #[], none⟩) (v := .agg (fA d)) rfl (by kernel_rfl) (by kernel_rfl) (by kernel_rfl) (fun _ _ _ h => h) (qdB (by rfl) _ rfl g6 0 d rfl (fun w h => h.1)) hHeld ?_
   simp only [zaP, zsT, zsZ, zsS]
   refine wpAnyH_take (i := 1) (oi := ⟨some 18, .load 91 (.tmp 4), 91, "sign.go:27", #[], none⟩) (v := .agg (sA l)) rfl (by kernel_rfl) (by kernel_rfl) (by kernel_rfl) (fun _ _ _ h => h) (yldS (by rfl) _ rfl g4 0 l rfl (fun w h => h.2)) hHeld ?_
   simp only [zaP, zsT, zsZ, zsS]
   refine wpAnyH_take (i := 2) (oi := ⟨some 19, .load 95 (.tmp 6), 95, "sign.go:27", #[], none⟩) (v := .agg (fA d)) rfl (by kernel_rfl) (by kernel_rfl) (by kernel_rfl) (fun _ _ _ h => h) (qdB (by rfl) _ rfl g6 0 d rfl (fun w h => h.1)) hHeld ?_
   simp only [zaP, zsT, zsZ, zsS]
   refine wpAnyH_ready (rs := [3, 5]) (by kernel_rfl) (by simp) ?_
   refine AllReadyH.cons (o := ⟨some 20, .call ⟨.value (.func 35), #[.tmp 19], #[95]⟩, 98, "sign.go:27", #[zeD 2], none⟩) rfl (fun K hK => ?_) ?_
   ·
    refine qag (by rfl) _ _ (hrunBaseD _ rfl (.agg (fA d)) rfl V1) _ _ (refBase d Ed.out Bq EBq.out V1) (fun V2 HBx => ?_)
    have KV2 := kTr KV1 HBx
    clear HBx
    refine hK.out _ _ ?_ (fun hHeld => ?_)
    · exact ⟨qad (qaW RD.out) KV2.out lD, qad (qbn RS.out) KV2.out lS⟩
    clear hK K
    try simp only [zaP, zsT, zsZ, zsS]
    refine wpAnyH_ready (rs := [4, 5]) (by kernel_rfl) (by simp) ?_
    refine AllReadyH.cons (o := ⟨some 21, .call ⟨.value (.func 34), #[.tmp 17, .tmp 18, .tmp 20], #[95, 91, 98]⟩, 98, "sign.go:27", #[zeD 0, zeD 1, zeD 3, zeC 3], none⟩) rfl (fun K hK => ?_) ?_
    ·
     refine qag (by rfl) _ _ (qcJ _ _ _ rfl (.agg (fA d)) (.agg (sA l)) (.agg (qA Bq)) rfl rfl rfl V2) _ _ (timesA d Hd.out l Bq HBq.out V2) (fun V3 HBx => ?_)
     have KV3 := kTr KV2 HBx
     clear HBx
     refine hK.out _ _ ?_ (fun hHeld => ?_)
     · exact ⟨qad (qaW RD.out) KV3.out lD, qad (qbn RS.out) KV3.out lS⟩
     clear hK K
     try simp only [zaP, zsT, zsZ, zsS]
     refine wpAnyH_ready (rs := [5]) (by kernel_rfl) (by simp) ?_
     refine AllReadyH.cons (o := oRefKey15) rfl (fun K hK => ?_) AllReadyH.nil
     refine qam (w' := V3.alloc (.cells (qA q0) 98)) (by rfl) (.pointer (some ⟨V3.heap.size, 0, none⟩)) (qbH rfl V3) ?_
     obtain ⟨gg4, hgg4⟩ : ∃ g, g = V3.heap.size := ⟨_, rfl⟩
     have ZN : Hid ((V3.alloc (.cells (qA q0) 98)).heap[gg4]? = some (.cells (qA q0) 98 (0, 0))) := by rw [hgg4]; exact heap_alloc_new _ _
     have KV4 : Hid (Below W4.heap.size W4 (V3.alloc (.cells (qA q0) 98))) := KV3.out.alloc KV3.out.size _
     have GG : Hid (W4.heap.size ≤ gg4) := by rw [hgg4]; exact KV3.out.size
     rw [← hgg4]
     obtain ⟨V4, hV4⟩ : ∃ V, V = V3.alloc (.cells (qA q0) 98) := ⟨_, rfl⟩
     rw [← hV4] at ZN KV4 ⊢
     clear hV4 hgg4
     refine hK.out _ _ ?_ (fun hHeld => ?_)
     · exact ⟨qad (qaW RD.out) KV4.out lD, qad (qbn RS.out) KV4.out lS⟩
     clear hK K
     try simp only [zaP, zsT, zsZ, zsS]
     refine wpAnyH_ready (rs := [6]) (by kernel_rfl) (by simp) ?_
     refine AllReadyH.cons (o := oRefKey16) rfl (fun K hK => ?_) AllReadyH.nil
     refine qaj _ (by rfl) 98 (.tmp 7) (.tmp 21) (by rfl) (gg4) (qA (tmQ d l Bq 256)) (by rfl) (by rfl) 98 _ ZN.out (qaJ _) (qbz _ _) (qbB _) ?_
     rw [qal]
     refine hK.out _ _ ?_ (fun hHeld => ?_)
     · exact ⟨qak (qad (qaW RD.out) KV4.out lD) (Nat.ne_of_lt (Nat.lt_of_lt_of_le lD GG.out)), qak (qad (qbn RS.out) KV4.out lS) (Nat.ne_of_lt (Nat.lt_of_lt_of_le lS GG.out))⟩
     clear hK K
     try simp only [zaP, zsT, zsZ, zsS]
     refine wpAnyH_done (by kernel_rfl) ?_ _
     go_wp2_with fail
     go_meet
     case rel => exact ⟨gg4, rfl, qaf (setRow_heap _ _ _ _ _ _ ZN.out), qaf (below_setRow KV4.out GG.out _)⟩
    refine AllReadyH.cons (o := oRefKey15) rfl (fun K hK => ?_) ?_
    ·
     refine qam (w' := V2.alloc (.cells (qA q0) 98)) (by rfl) (.pointer (some ⟨V2.heap.size, 0, none⟩)) (qbH rfl V2) ?_
     obtain ⟨gg6, hgg6⟩ : ∃ g, g = V2.heap.size := ⟨_, rfl⟩
     have ZN : Hid ((V2.alloc (.cells (qA q0) 98)).heap[gg6]? = some (.cells (qA q0) 98 (0, 0))) := by rw [hgg6]; exact heap_alloc_new _ _
     have KV6 : Hid (Below W4.heap.size W4 (V2.alloc (.cells (qA q0) 98))) := KV2.out.alloc KV2.out.size _
     have GG : Hid (W4.heap.size ≤ gg6) := by rw [hgg6]; exact KV2.out.size
     rw [← hgg6]
     obtain ⟨V6, hV6⟩ : ∃ V, V = V2.alloc (.cells (qA q0) 98) := ⟨_, rfl⟩
     rw [← hV6] at ZN KV6 ⊢
     clear hV6 hgg6
     refine hK.out _ _ ?_ (fun hHeld => ?_)
     · exact ⟨qad (qaW RD.out) KV6.out lD, qad (qbn RS.out) KV6.out lS⟩
     clear hK K
     try simp only [zaP, zsT, zsZ, zsS]
     refine wpAnyH_ready (rs := [4]) (by kernel_rfl) (by simp) ?_
     refine AllReadyH.cons (o := ⟨some 21, .call ⟨.value (.func 34), #[.tmp 17, .tmp 18, .tmp 20], #[95, 91, 98]⟩, 98, "sign.go:27", #[zeD 0, zeD 1, zeD 3, zeC 3], none⟩) rfl (fun K hK => ?_) AllReadyH.nil
     refine qag (by rfl) _ _ (qcJ _ _ _ rfl (.agg (fA d)) (.agg (sA l)) (.agg (qA Bq)) rfl rfl rfl V6) _ _ (timesA d Hd.out l Bq HBq.out V6) (fun V7 HBx => ?_)
     have KV7 := kTr KV6 HBx
     have ZN : Hid (V7.heap[gg6]? = _) := qaa ZN.out HBx
     clear HBx
     refine hK.out _ _ ?_ (fun hHeld => ?_)
     · exact ⟨qad (qaW RD.out) KV7.out lD, qad (qbn RS.out) KV7.out lS⟩
     clear hK K
     try simp only [zaP, zsT, zsZ, zsS]
     refine wpAnyH_ready (rs := [6]) (by kernel_rfl) (by simp) ?_
     refine AllReadyH.cons (o := oRefKey16) rfl (fun K hK => ?_) AllReadyH.nil
     refine qaj _ (by rfl) 98 (.tmp 7) (.tmp 21) (by rfl) (gg6) (qA (tmQ d l Bq 256)) (by rfl) (by rfl) 98 _ ZN.out (qaJ _) (qbz _ _) (qbB _) ?_
     rw [qal]
     refine hK.out _ _ ?_ (fun hHeld => ?_)
     · exact ⟨qak (qad (qaW RD.out) KV7.out lD) (Nat.ne_of_lt (Nat.lt_of_lt_of_le lD GG.out)), qak (qad (qbn RS.out) KV7.out lS) (Nat.ne_of_lt (Nat.lt_of_lt_of_le lS GG.out))⟩
     clear hK K
     try simp only [zaP, zsT, zsZ, zsS]
     refine wpAnyH_done (by kernel_rfl) ?_ _
     go_wp2_with fail
     go_meet
     case rel => exact ⟨gg6, rfl, qaf (setRow_heap _ _ _ _ _ _ ZN.out), qaf (below_setRow KV7.out GG.out _)⟩
    exact AllReadyH.nil
   refine AllReadyH.cons (o := oRefKey15) rfl (fun K hK => ?_) ?_
   ·
    refine qam (w' := V1.alloc (.cells (qA q0) 98)) (by rfl) (.pointer (some ⟨V1.heap.size, 0, none⟩)) (qbH rfl V1) ?_
    obtain ⟨gg9, hgg9⟩ : ∃ g, g = V1.heap.size := ⟨_, rfl⟩
    have ZN : Hid ((V1.alloc (.cells (qA q0) 98)).heap[gg9]? = some (.cells (qA q0) 98 (0, 0))) := by rw [hgg9]; exact heap_alloc_new _ _
    have KV9 : Hid (Below W4.heap.size W4 (V1.alloc (.cells (qA q0) 98))) := KV1.out.alloc KV1.out.size _
    have GG : Hid (W4.heap.size ≤ gg9) := by rw [hgg9]; exact KV1.out.size
    rw [← hgg9]
    obtain ⟨V9, hV9⟩ : ∃ V, V = V1.alloc (.cells (qA q0) 98) := ⟨_, rfl⟩
    rw [← hV9] at ZN KV9 ⊢
    clear hV9 hgg9
    refine hK.out _ _ ?_ (fun hHeld => ?_)
    · exact ⟨qad (qaW RD.out) KV9.out lD, qad (qbn RS.out) KV9.out lS⟩
    clear hK K
    try simp only [zaP, zsT, zsZ, zsS]
    refine wpAnyH_ready (rs := [3]) (by kernel_rfl) (by simp) ?_
    refine AllReadyH.cons (o := ⟨some 20, .call ⟨.value (.func 35), #[.tmp 19], #[95]⟩, 98, "sign.go:27", #[zeD 2], none⟩) rfl (fun K hK => ?_) AllReadyH.nil
    refine qag (by rfl) _ _ (hrunBaseD _ rfl (.agg (fA d)) rfl V9) _ _ (refBase d Ed.out Bq EBq.out V9) (fun V10 HBx => ?_)
    have KV10 := kTr KV9 HBx
    have ZN : Hid (V10.heap[gg9]? = _) := qaa ZN.out HBx
    clear HBx
    refine hK.out _ _ ?_ (fun hHeld => ?_)
    · exact ⟨qad (qaW RD.out) KV10.out lD, qad (qbn RS.out) KV10.out lS⟩
    clear hK K
    try simp only [zaP, zsT, zsZ, zsS]
    refine wpAnyH_ready (rs := [4]) (by kernel_rfl) (by simp) ?_
    refine AllReadyH.cons (o := ⟨some 21, .call ⟨.value (.func 34), #[.tmp 17, .tmp 18, .tmp 20], #[95, 91, 98]⟩, 98, "sign.go:27", #[zeD 0, zeD 1, zeD 3, zeC 3], none⟩) rfl (fun K hK => ?_) AllReadyH.nil
    refine qag (by rfl) _ _ (qcJ _ _ _ rfl (.agg (fA d)) (.agg (sA l)) (.agg (qA Bq)) rfl rfl rfl V10) _ _ (timesA d Hd.out l Bq HBq.out V10) (fun V11 HBx => ?_)
    have KV11 := kTr KV10 HBx
    have ZN : Hid (V11.heap[gg9]? = _) := qaa ZN.out HBx
    clear HBx
    refine hK.out _ _ ?_ (fun hHeld => ?_)
    · exact ⟨qad (qaW RD.out) KV11.out lD, qad (qbn RS.out) KV11.out lS⟩
    clear hK K
    try simp only [zaP, zsT, zsZ, zsS]
    refine wpAnyH_ready (rs := [6]) (by kernel_rfl) (by simp) ?_
    refine AllReadyH.cons (o := oRefKey16) rfl (fun K hK => ?_) AllReadyH.nil
    refine qaj _ (by rfl) 98 (.tmp 7) (.tmp 21) (by rfl) (gg9) (qA (tmQ d l Bq 256)) (by rfl) (by rfl) 98 _ ZN.out (qaJ _) (qbz _ _) (qbB _) ?_
    rw [qal]
    refine hK.out _ _ ?_ (fun hHeld => ?_)
    · exact ⟨qak (qad (qaW RD.out) KV11.out lD) (Nat.ne_of_lt (Nat.lt_of_lt_of_le lD GG.out)), qak (qad (qbn RS.out) KV11.out lS) (Nat.ne_of_lt (Nat.lt_of_lt_of_le lS GG.out))⟩
    clear hK K
    try simp only [zaP, zsT, zsZ, zsS]
    refine wpAnyH_done (by kernel_rfl) ?_ _
    go_wp2_with fail
    go_meet
    case rel => exact ⟨gg9, rfl, qaf (setRow_heap _ _ _ _ _ _ ZN.out), qaf (below_setRow KV11.out GG.out _)⟩
   exact AllReadyH.nil
  case rest =>
   obtain ⟨g7, rfl, RN, X9⟩ := hcut
   have BL : Hid (Below w.heap.size w wc) := BL.out.trans (X9.out.mono BL.out.size)
   obtain ⟨r, Er⟩ : ∃ c, Hid (c = tmQ d l Bq 256) := ⟨_, qaf rfl⟩
   have Hr : Hid r.Ok := by rw [Er.out]; exact tmQ_ok _ _ _ _
   rw [← Er.out] at RN
   go_wp2_with (first | (refine wpList_load_row (by rfl) 98 (.tmp 7) (by rfl) g7 (by rfl) 98 (qA r) (0, 0) _ RN.out Tryz.underlying98 rfl (qaJ _) ?_))
   refine (codeA r Hr.out _).mono ?_
   rintro e W9 ⟨rfl, hB9⟩
   have BL9 := kTr BL hB9
   clear hB9
   obtain ⟨T, HT⟩ : ∃ T, Hid (T = codeD r) := ⟨_, qaf rfl⟩
   rw [← HT.out]
   go_wp2_with fail
   go_returns
   refine ⟨?_, BL9.out⟩
   unfold rkS rkE
   rw [if_pos HS.out, if_pos HS.out, HT.out, Er.out, Ed.out, EBq.out, El.out]; rfl
 ·
  have b32 : ((s.size : Int) != 32) = true := by rw [bne_iff_ne]; omega
  go_wp2_with fail
  go_returns
  refine ⟨?_, Below.refl _ _⟩
  unfold rkS rkE
  rw [if_neg h32, if_neg h32]; rfl
end
end Go.Proofs.YtccgfabojbjmjaaGreatDoor
