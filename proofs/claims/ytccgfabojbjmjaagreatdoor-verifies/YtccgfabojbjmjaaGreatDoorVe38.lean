import Derived.Test.YtccgfabojbjmjaaGreatDoorVe32
namespace Go.Proofs.YtccgfabojbjmjaaGreatDoor
open Go.RowKit
abbrev oBaseTm0 : Oper := ⟨some 5, .move (.tmp 0), 58, "base.go:28", #[], none⟩
abbrev oBaseTm1 : Oper := ⟨some 7, .load 60 (.tmp 3), 60, "base.go:28", #[], none⟩
abbrev oBaseTm4 : Oper := ⟨none, .store 82 (.tmp 4) (.tmp 8), 0, "base.go:28", #[zeD 3, zeC 3, zeP 0, zeP 1, zeP 2, zeP 3], none⟩
theorem GlB.keepX {w w' : World} {b : Nat} (h : GlB w) (hb : Bex b w w') (h7 : 13 ≤ b) : GlB w' := by
 obtain ⟨t0, f0, e0⟩ := h.gl.g0
 obtain ⟨t1, f1, e1⟩ := h.gl.g1
 obtain ⟨t3, f3, e3⟩ := h.gl.g3
 obtain ⟨t4, f4, e4⟩ := h.gl.g4
 obtain ⟨t5, f5, e5⟩ := h.gl.g5
 obtain ⟨t, f, e⟩ := h.gc
 exact ⟨⟨⟨t0, f0, (hb.block _ (lt_row e0) (by omega)).trans e0⟩, ⟨t1, f1, (hb.block _ (lt_row e1) (by omega)).trans e1⟩, ⟨t3, f3, (hb.block _ (lt_row e3) (by omega)).trans e3⟩, ⟨t4, f4, (hb.block _ (lt_row e4) (by omega)).trans e4⟩, ⟨t5, f5, (hb.block _ (lt_row e5) (by omega)).trans e5⟩⟩, t, f, (hb.block _ (lt_row e) (by omega)).trans e⟩
theorem yldU {ops : Array Oper} {S : World → Prop} {op : Oper} {a : Act} (hw : Region.wanted op (yielded ops a.tmps) = true) (x : Operand) (ho : op.op = .load 60 x)
  (b o n : Nat) (hx : a.eval x = .pointer (some ⟨b, o, none⟩)) (hS : ∀ w, S w → w.rangeAt b o (nL n)) : YieldsIf Tryz.prog ops S op (.agg (num4A n)) a :=
 yld_load hw _ x ho b o hx (nL n) (num4A n) rfl _ hS under4 rfl size4
theorem hrunBasePow {a : Act} {o : Oper} (x : Operand) (ho : o.op = .call { callee := .value (.func 90), args := #[x], argTypes := #[58] }) (v1 : Value) (hx : a.eval x = v1) (w : World) :
  (execOp a.eval o).run Tryz.prog w = .ok (.enter 90 #[v1]) w := by
 unfold execOp
 simp only [ho]
 subst hx
 go_simp
section
attribute [local irreducible] num4A nL pA psA psL pL bA bpP dcP dcB
set_option maxRecDepth 100000 in
set_option maxHeartbeats 4000000 in
theorem basePowDone (b : Nat) (w : World) (hN : BaseDone w b) :
  Calls Tryz.prog 90 #[.pointer (some ⟨b, 0, none⟩)] w fun e w' => e = .returned (.agg (psA (pwN bpP) 4)) ∧ Bex b w w' ∧ BaseDone w' b := by
 have hz := zeroPw
 have hmf : ∀ (fn : Fn) (first cap : Array Value) (w : World), (Instr.makeFunc fn first cap).run Tryz.prog w = .ok (.func fn first cap) w := fun _ _ _ _ => rfl
 have HN := hide hN
 have lb := hN.lt
 clear hN
 go_enter Tryz.func90, Tryz.ntmps90
 go_upto_region 1 with fail
 generalize hW0 : World.alloc _ _ = W0
 have B0 : Hid (Below w.heap.size w W0) := by rw [← hW0]; show Below _ _ _; go_grown
 have RZ : Hid (W0.heap[w.heap.size + 1]? = some (.cells (psA noPt 4) 84 (0, 0))) := by rw [← hW0]; exact heap_alloc2_new _ _ _
 have CP : W0.cell? ⟨w.heap.size, 0, none⟩ = some (.pointer (some ⟨b, 0, none⟩)) := by rw [← hW0]; simp
 clear hW0
 have N0 := hide (HN.out.keep (B0.out.block b lb))
 go_wp2_with fail
 refine (do_done ⟨b, 0, none⟩ 1 (by decide) _ W0 N0.out.c0).mono ?_
 rintro e W1 ⟨rfl, rfl⟩
 go_wp2_with (first
  | (refine wpList_load_mid (by rfl) 84 (.tmp 10) (by rfl) b 3 (by rfl) (psL (pwN bpP) 4) _ N0.out.rd underPw4 rfl (sizePwL _) ?_)
  | (refine wpList_store_row (by rfl) 84 (.tmp 2) (.tmp 11) (by rfl) (w.heap.size + 1) (psL (pwN bpP) 4).toArray (by rfl) (by rfl) 84 _ RZ.out (psLa_size _) (psLa_old _ _) (psLa_all _ _) ?_))
 have L2 := below_setRow (B0.out) (show w.heap.size ≤ w.heap.size + 1 by omega) (psL (pwN bpP) 4).toArray
 refine bodyPost_ret (v := .agg (psL (pwN bpP) 4).toArray) (results_cell_row Tryz.results90 _ _ (w.heap.size + 1) 84 _ (0, 0) _ (by rfl) (setRow_heap _ _ _ _ _ _ RZ.out) underPw4 rfl (psLa_size _)) rfl ⟨by rw [psA_eq], Bex.of L2, HN.out.keep (L2.block b lb)⟩
set_option maxRecDepth 100000 in
set_option maxHeartbeats 4000000 in
theorem baseTimesNew (b n : Nat) (w : World) (hG : GlB w) (h7 : 13 ≤ b) (hN : BaseNew w b) :
  Calls Tryz.prog 57 #[.pointer (some ⟨b, 0, none⟩), .agg (num4A n)] w fun e w' => e = .returned (.agg (pA (mlP (pwN bpP) n 64))) ∧ Bex b w w' ∧ BaseDone w' b := by
 have hzp := zeroP
 have HG := hide hG
 have HN := hide hN
 have lb := hN.lt
 clear hG hN
 go_enter Tryz.func57, Tryz.ntmps57
 go_upto_region 1 with fail
 generalize hW0 : World.alloc _ _ = W0
 have B0 : Hid (Below w.heap.size w W0) := by rw [← hW0]; show Below _ _ _; go_grown
 have RN : Hid (W0.heap[w.heap.size]? = some (.cells (num4A n) 60 (0, 0))) := by rw [← hW0]; exact (heap_alloc_old _ _ (by simp)).trans (heap_alloc_new _ _)
 have RZ : Hid (W0.heap[w.heap.size + 1]? = some (.cells (pA p0) 82 (0, 0))) := by rw [← hW0]; exact heap_alloc2_new _ _ _
 clear hW0
 have N0 := hide (HN.out.keep (B0.out.block b lb))
 have G0 := hide (HG.out.keep B0.out)
 have lb0 := N0.out.lt
 refine wp_region_held_drew (S := fun w' => w'.rangeAt w.heap.size 0 (nL n)) (by kernel_rfl) (rangeN RN.out) (fun hHeld => ?_)
 have KV1 : Hid (Below W0.heap.size W0 W0.drew) := (Below.refl _ _).drew
 obtain ⟨V1, hV1⟩ : ∃ V, V = W0.drew := ⟨_, rfl⟩
 rw [← hV1] at hHeld KV1 ⊢
 clear hV1
 refine wpAnyH_take (i := 0) (oi := oBaseTm0) (v := .pointer (some ⟨b, 0, none⟩)) rfl (by kernel_rfl) (by kernel_rfl) (by kernel_rfl) (fun _ _ _ h => h) (Or.inl ⟨by rfl, fun w _ => by go_simp⟩) hHeld ?_
 simp only [zaP, zsT, zsZ, zsS]
 refine wpAnyH_take (i := 2) (oi := oBaseTm1) (v := .agg (num4A n)) rfl (by kernel_rfl) (by kernel_rfl) (by kernel_rfl) (fun _ _ _ h => h) (yldU (by rfl) _ rfl w.heap.size 0 n rfl (fun w h => h)) hHeld ?_
 simp only [zaP, zsT, zsZ, zsS]
 have G1 := hide (G0.out.keep KV1.out)
 have N1 := hide (N0.out.keep (KV1.out.block b lb0))
 refine wpAnyH_ready (rs := [1]) (by kernel_rfl) (by simp) ?_
 refine AllReadyH.cons (o := ⟨some 6, .call ⟨.value (.func 90), #[.tmp 5], #[58]⟩, 84, "base.go:28", #[zeD 0], none⟩) rfl (fun K hK => ?_) AllReadyH.nil
 refine step_callTo (by rfl) _ _ (hrunBasePow _ rfl (.pointer (some ⟨b, 0, none⟩)) rfl V1) _ (fun V2 => Bex b V1 V2 ∧ BaseDone V2 b) (basePowNew b V1 G1.out h7 N1.out) (fun V2 HBx => ?_)
 have X2 : Hid (Bex b W0 V2) := (Bex.of KV1.out).trans HBx.1
 have D2 := hide HBx.2
 clear HBx
 have RN2 : Hid (V2.heap[w.heap.size]? = some (.cells (num4A n) 60 (0, 0))) := (X2.out.block _ (lt_row RN.out) (by omega)).trans RN.out
 have RZ2 : Hid (V2.heap[w.heap.size + 1]? = some (.cells (pA p0) 82 (0, 0))) := (X2.out.block _ (lt_row RZ.out) (by omega)).trans RZ.out
 have G2 := hide (G0.out.keepX X2.out h7)
 refine hK.out _ _ (rangeN RN2.out) (fun hHeld => ?_)
 clear hK K
 try simp only [zaP, zsT, zsZ, zsS]
 refine wpAnyH_ready (rs := [3]) (by kernel_rfl) (by simp) ?_
 refine AllReadyH.cons (o := ⟨some 8, .call ⟨.value (.func 91), #[.tmp 6, .tmp 7], #[84, 60]⟩, 82, "base.go:28", #[zeD 1, zeD 2, zeC 1], none⟩) rfl (fun K hK => ?_) AllReadyH.nil
 refine step_callTo (by rfl) _ _ (hrunPtTimes _ _ rfl (.agg (psA (pwN bpP) 4)) (.agg (num4A n)) rfl rfl V2) _ _ (ptTimesA (pwN bpP) (fun i _ => dblN_ok bpP_ok _) n V2 G2.out.gl) (fun V3 HBx => ?_)
 have RN3 := hide (row_keep' RN2.out HBx)
 have RZ3 := hide (row_keep' RZ2.out HBx)
 have D3 := hide (D2.out.keep (HBx.block b D2.out.lt))
 have X3 := hide (X2.out.trans (Bex.of HBx))
 clear HBx
 refine hK.out _ _ (rangeN RN3.out) (fun hHeld => ?_)
 clear hK K
 try simp only [zaP, zsT, zsZ, zsS]
 refine wpAnyH_ready (rs := [4]) (by kernel_rfl) (by simp) ?_
 refine AllReadyH.cons (o := oBaseTm4) rfl (fun K hK => ?_) AllReadyH.nil
 refine step_store_row _ (by rfl) 82 (.tmp 4) (.tmp 8) (by rfl) (w.heap.size + 1) (pA (mlP (pwN bpP) n 64)) (by rfl) (by rfl) 82 _ RZ3.out (pA_size _) (pA_old _ _) (pA_all _) ?_
 rw [put_none']
 refine hK.out _ _ (range_set (rangeN RN3.out) (by omega)) (fun _ => ?_)
 clear hK K
 try simp only [zaP, zsT, zsZ, zsS]
 refine wpAnyH_done (by kernel_rfl) ?_ _
 go_wp2_with fail
 have L2 : Below w.heap.size V3 (V3.setRow (w.heap.size + 1) (pA (mlP (pwN bpP) n 64))) := below_setRow (Below.refl _ _) (by omega) _
 refine bodyPost_ret (v := .agg (pA (mlP (pwN bpP) n 64))) (results_cell_row Tryz.results57 _ _ (w.heap.size + 1) 82 _ (0, 0) _ (by rfl) (setRow_heap _ _ _ _ _ _ RZ3.out) Tryz.underlying82 rfl (pA_size _)) rfl ⟨rfl, ((Bex.of (b := b) B0.out).trans X3.out).setRow (by omega) _, D3.out.keep (L2.block b lb)⟩
set_option maxRecDepth 100000 in
set_option maxHeartbeats 4000000 in
theorem baseTimesDone (b n : Nat) (w : World) (hG : GlB w) (h7 : 13 ≤ b) (hN : BaseDone w b) :
  Calls Tryz.prog 57 #[.pointer (some ⟨b, 0, none⟩), .agg (num4A n)] w fun e w' => e = .returned (.agg (pA (mlP (pwN bpP) n 64))) ∧ Bex b w w' ∧ BaseDone w' b := by
 have hzp := zeroP
 have HG := hide hG
 have HN := hide hN
 have lb := hN.lt
 clear hG hN
 go_enter Tryz.func57, Tryz.ntmps57
 go_upto_region 1 with fail
 generalize hW0 : World.alloc _ _ = W0
 have B0 : Hid (Below w.heap.size w W0) := by rw [← hW0]; show Below _ _ _; go_grown
 have RN : Hid (W0.heap[w.heap.size]? = some (.cells (num4A n) 60 (0, 0))) := by rw [← hW0]; exact (heap_alloc_old _ _ (by simp)).trans (heap_alloc_new _ _)
 have RZ : Hid (W0.heap[w.heap.size + 1]? = some (.cells (pA p0) 82 (0, 0))) := by rw [← hW0]; exact heap_alloc2_new _ _ _
 clear hW0
 have N0 := hide (HN.out.keep (B0.out.block b lb))
 have G0 := hide (HG.out.keep B0.out)
 have lb0 := N0.out.lt
 refine wp_region_held_drew (S := fun w' => w'.rangeAt w.heap.size 0 (nL n)) (by kernel_rfl) (rangeN RN.out) (fun hHeld => ?_)
 have KV1 : Hid (Below W0.heap.size W0 W0.drew) := (Below.refl _ _).drew
 obtain ⟨V1, hV1⟩ : ∃ V, V = W0.drew := ⟨_, rfl⟩
 rw [← hV1] at hHeld KV1 ⊢
 clear hV1
 refine wpAnyH_take (i := 0) (oi := oBaseTm0) (v := .pointer (some ⟨b, 0, none⟩)) rfl (by kernel_rfl) (by kernel_rfl) (by kernel_rfl) (fun _ _ _ h => h) (Or.inl ⟨by rfl, fun w _ => by go_simp⟩) hHeld ?_
 simp only [zaP, zsT, zsZ, zsS]
 refine wpAnyH_take (i := 2) (oi := oBaseTm1) (v := .agg (num4A n)) rfl (by kernel_rfl) (by kernel_rfl) (by kernel_rfl) (fun _ _ _ h => h) (yldU (by rfl) _ rfl w.heap.size 0 n rfl (fun w h => h)) hHeld ?_
 simp only [zaP, zsT, zsZ, zsS]
 have G1 := hide (G0.out.keep KV1.out)
 have N1 := hide (N0.out.keep (KV1.out.block b lb0))
 refine wpAnyH_ready (rs := [1]) (by kernel_rfl) (by simp) ?_
 refine AllReadyH.cons (o := ⟨some 6, .call ⟨.value (.func 90), #[.tmp 5], #[58]⟩, 84, "base.go:28", #[zeD 0], none⟩) rfl (fun K hK => ?_) AllReadyH.nil
 refine step_callTo (by rfl) _ _ (hrunBasePow _ rfl (.pointer (some ⟨b, 0, none⟩)) rfl V1) _ (fun V2 => Bex b V1 V2 ∧ BaseDone V2 b) (basePowDone b V1 N1.out) (fun V2 HBx => ?_)
 have X2 : Hid (Bex b W0 V2) := (Bex.of KV1.out).trans HBx.1
 have D2 := hide HBx.2
 clear HBx
 have RN2 : Hid (V2.heap[w.heap.size]? = some (.cells (num4A n) 60 (0, 0))) := (X2.out.block _ (lt_row RN.out) (by omega)).trans RN.out
 have RZ2 : Hid (V2.heap[w.heap.size + 1]? = some (.cells (pA p0) 82 (0, 0))) := (X2.out.block _ (lt_row RZ.out) (by omega)).trans RZ.out
 have G2 := hide (G0.out.keepX X2.out h7)
 refine hK.out _ _ (rangeN RN2.out) (fun hHeld => ?_)
 clear hK K
 try simp only [zaP, zsT, zsZ, zsS]
 refine wpAnyH_ready (rs := [3]) (by kernel_rfl) (by simp) ?_
 refine AllReadyH.cons (o := ⟨some 8, .call ⟨.value (.func 91), #[.tmp 6, .tmp 7], #[84, 60]⟩, 82, "base.go:28", #[zeD 1, zeD 2, zeC 1], none⟩) rfl (fun K hK => ?_) AllReadyH.nil
 refine step_callTo (by rfl) _ _ (hrunPtTimes _ _ rfl (.agg (psA (pwN bpP) 4)) (.agg (num4A n)) rfl rfl V2) _ _ (ptTimesA (pwN bpP) (fun i _ => dblN_ok bpP_ok _) n V2 G2.out.gl) (fun V3 HBx => ?_)
 have RN3 := hide (row_keep' RN2.out HBx)
 have RZ3 := hide (row_keep' RZ2.out HBx)
 have D3 := hide (D2.out.keep (HBx.block b D2.out.lt))
 have X3 := hide (X2.out.trans (Bex.of HBx))
 clear HBx
 refine hK.out _ _ (rangeN RN3.out) (fun hHeld => ?_)
 clear hK K
 try simp only [zaP, zsT, zsZ, zsS]
 refine wpAnyH_ready (rs := [4]) (by kernel_rfl) (by simp) ?_
 refine AllReadyH.cons (o := oBaseTm4) rfl (fun K hK => ?_) AllReadyH.nil
 refine step_store_row _ (by rfl) 82 (.tmp 4) (.tmp 8) (by rfl) (w.heap.size + 1) (pA (mlP (pwN bpP) n 64)) (by rfl) (by rfl) 82 _ RZ3.out (pA_size _) (pA_old _ _) (pA_all _) ?_
 rw [put_none']
 refine hK.out _ _ (range_set (rangeN RN3.out) (by omega)) (fun _ => ?_)
 clear hK K
 try simp only [zaP, zsT, zsZ, zsS]
 refine wpAnyH_done (by kernel_rfl) ?_ _
 go_wp2_with fail
 have L2 : Below w.heap.size V3 (V3.setRow (w.heap.size + 1) (pA (mlP (pwN bpP) n 64))) := below_setRow (Below.refl _ _) (by omega) _
 refine bodyPost_ret (v := .agg (pA (mlP (pwN bpP) n 64))) (results_cell_row Tryz.results57 _ _ (w.heap.size + 1) 82 _ (0, 0) _ (by rfl) (setRow_heap _ _ _ _ _ _ RZ3.out) Tryz.underlying82 rfl (pA_size _)) rfl ⟨rfl, ((Bex.of (b := b) B0.out).trans X3.out).setRow (by omega) _, D3.out.keep (L2.block b lb)⟩
end
end Go.Proofs.YtccgfabojbjmjaaGreatDoor
