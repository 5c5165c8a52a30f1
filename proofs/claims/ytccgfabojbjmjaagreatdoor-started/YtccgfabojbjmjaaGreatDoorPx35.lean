import Derived.Test.YtccgfabojbjmjaaGreatDoorPx29
namespace Go.Proofs.YtccgfabojbjmjaaGreatDoor
open Go.RowKit
abbrev oBaseTm0 : Oper := ⟨some 5, .move (.tmp 0), 58, "base.go:28", #[], none⟩
abbrev oBaseTm1 : Oper := ⟨some 7, .load 60 (.tmp 3), 60, "base.go:28", #[], none⟩
abbrev oBaseTm4 : Oper := ⟨none, .store 82 (.tmp 4) (.tmp 8), 0, "base.go:28", #[zeD 3, zeC 3, zeP 0, zeP 1, zeP 2, zeP 3], none⟩
theorem GlB.keepX {w w' : World} {b : Nat} (h : GlB w) (hb : Bex b w w') (h7 : 13 ≤ b) : GlB w' := by
 obtain ⟨t0, f0, e0⟩ := h.gl.g0
 obtain ⟨t1, f1, e1⟩ := h.gl.g1
 obtain ⟨t3, f3, e3⟩ := h.gl.g3
 obtain ⟨t4, f4, e4⟩ := h.gl.g4
 obtain ⟨t5, f5, e5⟩ := h.gl.g5
 obtain ⟨t, f, e⟩ := h.gc
 exact ⟨⟨⟨t0, f0, (hb.block _ (lt_row e0) (by omega)).trans e0⟩, ⟨t1, f1, (hb.block _ (lt_row e1) (by omega)).trans e1⟩, ⟨t3, f3, (hb.block _ (lt_row e3) (by omega)).trans e3⟩, ⟨t4, f4, (hb.block _ (lt_row e4) (by omega)).trans e4⟩, ⟨t5, f5, (hb.block _ (lt_row e5) (by omega)).trans e5⟩⟩, t, f, (hb.block _ (lt_row e) (by omega)).trans e⟩
theorem yldU {ops : Array Oper} {S : World → Prop} {op : Oper} {a : Act} (hw : Region.wanted op (yielded ops a.tmps) = true) (x : Operand) (ho : op.op = .load 60 x)
  (b o n : Nat) (hx : a.eval x = .pointer (some ⟨b, o, none⟩)) (hS : ∀ w, S w → w.rangeAt b o (nL n)) : YieldsIf Tryz.prog ops S op (.agg (num4A n)) a :=
 yld_load hw _ x ho b o hx (nL n) (num4A n) rfl _ hS under4 rfl size4
theorem hrunBasePow {a : Act} {o : Oper} (x : Operand) (ho : o.op = .call { callee := .value (.func 90), args := #[x], argTypes := #[58] }) (v1 : Value) (hx : a.eval x = v1) (w : World) :
  (execOp a.eval o).run Tryz.prog w = .ok (.enter 90 #[v1]) w := by
 unfold execOp
 simp only [ho]
 subst hx
 go_simp
section
attribute [local irreducible] num4A nL pA psA psL pL bA bpP dcP dcB
set_option maxRecDepth 100000 in
set_option maxHeartbeats 4000000 in
theorem basePowDone (b : Nat) (w : World) (hN : BaseDone w b) :
  Calls Tryz.prog 90 #[.pointer (some ⟨b, 0, none⟩)] w fun e w' => e = .returned (.agg (psA (pwN bpP) 4)) ∧ Bex b w w' ∧ BaseDone w' b := by
 have hz := zeroPw
 have hmf : ∀ (fn : Fn) (first cap : Array Value) (w : World), (Instr.makeFunc fn first cap).run Tryz.prog w = .ok (.func fn first cap) w := fun _ _ _ _ => rfl
 have HN := hide hN
 have lb := hN.lt
 clear hN
 go_enter Tryz.func90, Tryz.ntmps90
 go_upto_region 1 with fail
 generalize hW0 : World.alloc _ _ = W0
 have B0 : Hid (Below w.heap.size w W0) := by rw [← hW0]; show Below _ _ _; go_grown
 have RZ : Hid (W0.heap[w.heap.size + 1]? = some (.cells (psA noPt 4) 84 (0, 0))) := by rw [← hW0]; exact heap_alloc2_new _ _ _
 have CP : W0.cell? ⟨w.heap.size, 0, none⟩ = some (.pointer (some ⟨b, 0, none⟩)) := by rw [← hW0]; simp
 clear hW0
 have N0 := hide (HN.out.keep (B0.out.block b lb))
 go_wp2_with fail
 refine (do_done ⟨b, 0, none⟩ 1 (by decide) _ W0 N0.out.c0).mono ?_
 rintro e W1 ⟨rfl, rfl⟩
 go_wp2_with (first
  | (refine wpList_load_mid (by rfl) 84 (.tmp 10) (by rfl) b 3 (by rfl) (psL (pwN bpP) 4) _ N0.out.rd underPw4 rfl (sizePwL _) ?_)
  | (refine wpList_store_row (by rfl) 84 (.tmp 2) (.tmp 11) (by rfl) (w.heap.size + 1) (psL (pwN bpP) 4).toArray (by rfl) (by rfl) 84 _ RZ.out (psLa_size _) (psLa_old _ _) (psLa_all _ _) ?_))
 have L2 := below_setRow (B0.out) (show w.heap.size ≤ w.heap.size + 1 by omega) (psL (pwN bpP) 4).toArray
 refine bodyPost_ret (v := .agg (psL (pwN bpP) 4).toArray) (results_cell_row Tryz.results90 _ _ (w.heap.size + 1) 84 _ (0, 0) _ (by rfl) (setRow_heap _ _ _ _ _ _ RZ.out) underPw4 rfl (psLa_size _)) rfl ⟨by rw [psA_eq], Bex.of L2, HN.out.keep (L2.block b lb)⟩
set_option maxRecDepth 100000 in
set_option maxHeartbeats 4000000 in
theorem baseTimesNew (b n : Nat) (w : World) (hG : GlB w) (h7 : 13 ≤ b) (hN : BaseNew w b) :
  Calls Tryz.prog 57 #[.pointer (some ⟨b, 0, none⟩), .agg (num4A n)] w fun e w' => e = .returned (.agg (pA (mlP (pwN bpP) n 64))) ∧ Bex b w w' ∧ BaseDone w' b := by
 have hzp := zeroP
 have HG := hide hG
 have HN := hide hN
 have lb := hN.lt
 clear hG hN
 go_enter Tryz.func57, Tryz.ntmps57
 go_upto_region 1 with fail
 generalize hW0 : World.alloc _ _ = W0
 have B0 : Hid (Below w.heap.size w W0) := by rw [← hW0]; show Below _ _ _; go_grown
 have RN : Hid (W0.heap[w.heap.size]? = some (.cells (num4A n) 60 (0, 0))) := by rw [← hW0]; exact (heap_alloc_old _ _ (by simp)).trans (heap_alloc_new _ _)
 have RZ : Hid (W0.heap[w.heap.size + 1]? = some (.cells (pA p0) 82 (0, 0))) := by rw [← hW0]; exact heap_alloc2_new _ _ _
 clear hW0
 have N0 := hide (HN.out.keep (B0.out.block b lb))
 have G0 := hide (HG.out.keep B0.out)
 have lb0 := N0.out.lt
 refine wp_region_held_drew (S := fun w' => w'.rangeAt w.heap.size 0 (nL n)) (by kernel_rfl) (rangeN RN.out) (fun hHeld => ?_)
 have KV1 : Hid (Below W0.heap.size W0 W0.drew) := (Below.refl _ _).drew
 obtain ⟨V1, hV1⟩ : ∃ V, V = W0.drew := ⟨_, rfl⟩
 rw [← hV1] at hHeld KV1 ⊢
 clear hV1
 refine wpAnyH_take (i := 0) (oi := oBaseTm0) (v := .pointer (some ⟨b, 0, none⟩)) rfl (by kernel_rfl) (by kernel_rfl) (by kernel_rfl) (fun _ _ _ h => h) (Or.inl ⟨by rfl, fun w _ => by go_simp⟩) hHeld ?_
 simp only [zaP, zsT, zsZ, zsS]
 refine wpAnyH_take (i := 2) (oi := oBaseTm1) (v := .agg (num4A n)) rfl (by kernel_rfl) (by kernel_rfl) (by kernel_rfl) (fun _ _ _ h => h) (yldU (by rfl) _ rfl w.heap.size 0 n rfl (fun w h => h)) hHeld ?_
 simp only [zaP, zsT, zsZ, zsS]
 have G1 := hide (G0.out.keep KV1.out)
 have N1 := hide (N0.out.keep (KV1.out.block b lb0))
 refine wpAnyH_ready (rs := [1]) (by kernel_rfl) (by simp) ?_
 refine AllReadyH.cons (o := ⟨some 6, .call ⟨.value (.func 90), #[.tmp 5], #[58]⟩, 84, "base.go:28", #[zeD 0], none⟩) rfl (fun K hK => ?_) AllReadyH.nil
 refine step_callTo (by rfl) _ _ (hrunBasePow _ rfl (.pointer (some ⟨b, 0, none⟩)) rfl V1) _ (fun V2 => Bex b V1 V2 ∧ BaseDone V2 b) (basePowNew b V1 G1.out h7 N1.out) (fun V2 HBx => ?_)
 have X2 : Hid (Bex b W0 V2) := (Bex.of KV1.out).trans HBx.1
 have D2 := hide HBx.2
 clear HBx
 have RN2 : Hid (V2.heap[w.heap.size]? = some (.cells (num4A n) 60 (0, 0))) := (X2.out.block _ (lt_row RN.out) (by omega)).trans RN.out
 have RZ2 : Hid (V2.heap[w.heap.size + 1]? = some (.cells (pA p0) 82 (0, 0))) := (X2.out.block _ (lt_row RZ.out) (by omega)).trans RZ.out
 have G2 := hide (G0.out.keepX X2.out h7)
 refine hK.out _ _ (rangeN RN2.out) (fun hHeld => ?_)
 clear hK K
 try simp only [zaP, zsT, zsZ, zsS]
 refine wpAnyH_ready (rs := [3]) (by kernel_rfl) (by simp) ?_
 refine AllReadyH.cons (o := ⟨some 8, .call ⟨.value (.func 91), #[.tmp 6, .tmp 7], #[84, 60]⟩, 82, "base.go:28", #[zeD 1, zeD 2, zeC 1], none⟩) rfl (fun K hK => ?_) AllReadyH.nil
 refine step_callTo (by rfl) _ _ (hrunPtTimes _ _ rfl (.agg (psA (pwN bpP) 4)) (.agg (num4A n)) rfl rfl V2) _ _ (ptTimesA (pwN bpP) (fun i _ => dblN_ok bpP_ok _) n V2 G2.out.gl) (fun V3 HBx => ?_)
 have RN3 := hide (row_keep' RN2.out HBx)
 have RZ3 := hide (row_keep' RZ2.out HBx)
 have D3 := hide (D2.out.keep (HBx.block b D2.out.lt))
 have X3 := hide (X2.out.trans (Bex.of HBx))
 clear HBx
 refine hK.out _ _ (rangeN RN3.out) (fun hHeld => ?_)
 clear hK K
 try simp only [zaP, zsT, zsZ, zsS]
 refine wpAnyH_ready (rs := [4]) (by kernel_rfl) (by simp) ?_
 refine AllReadyH.cons (o := oBaseTm4) rfl (fun K hK => ?_) AllReadyH.nil
 refine step_store_row _ (by rfl) 82 (.tmp 4) (.tmp 8) (by rfl) (w.heap.size + 1) (pA (mlP (pwN bpP) n 64)) (by rfl) (by rfl) 82 _ RZ3.out (pA_size _) (pA_old _ _) (pA_all _) ?_
 rw [put_none']
 refine hK.out _ _ (range_set (rangeN RN3.out) (by omega)) (fun _ => ?_)
 clear hK K
 try simp only [zaP, zsT, zsZ, zsS]
 refine wpAnyH_done (by kernel_rfl) ?_ _
 go_wp2_with fail
 have L2 : Below w.heap.size V3 (V3.setRow (w.heap.size + 1) (pA (mlP (pwN bpP) n 64))) := below_setRow (Below.refl _ _) (by omega) _
 refine bodyPost_ret (v := .agg (pA (mlP (pwN bpP) n 64))) (results_cell_row Tryz.results57 _ _ (w.heap.size + 1) 82 _ (0, 0) _ (by rfl) (setRow_heap _ _ _ _ _ _ RZ3.out) Tryz.underlying82 rfl (pA_size _)) rfl ⟨rfl, ((Bex.of (b := b) B0.out).trans X3.out).setRow (by omega) _, D3.out.keep (L2.block b lb)⟩
set_option maxRecDepth 100000 in
set_option maxHeartbeats 4000000 in
theorem baseTimesDone (b n : Nat) (w : World) (hG : GlB w) (h7 : 13 ≤ b) (hN : BaseDone w b) :
  Calls Tryz.prog 57 #[.pointer (some ⟨b, 0, none⟩), .agg (num4A n)] w fun e w' => e = .returned (.agg (pA (mlP (pwN bpP) n 64))) ∧ Bex b w w' ∧ BaseDone w' b := by
 have hzp := zeroP
 have HG := hide hG
 have HN := hide hN
 have lb := hN.lt
 clear hG hN
 go_enter Tryz.func57, Tryz.ntmps57
 go_upto_region 1 with fail
 generalize hW0 : World.alloc _ _ = W0
 have B0 : Hid (Below w.heap.size w W0) := by rw [← hW0]; show Below _ _ _; go_grown
 have RN : Hid (W0.heap[w.heap.size]? = some (.cells (num4A n) 60 (0, 0))) := by rw [← hW0]; exact (heap_alloc_old _ _ (by simp)).trans (heap_alloc_new _ _)
 have RZ : Hid (W0.heap[w.heap.size + 1]? = some (.cells (pA p0) 82 (0, 0))) := by rw [← hW0]; exact heap_alloc2_new _ _ _
 clear hW0
 have N0 := hide (HN.out.keep (B0.out.block b lb))
 have G0 := hide (HG.out.keep B0.out)
 have lb0 := N0.out.lt
 refine wp_region_held_drew (S := fun w' => w'.rangeAt w.heap.size 0 (nL n)) (by kernel_rfl) (rangeN RN.out) (fun hHeld => ?_)
 have KV1 : Hid (Below W0.heap.size W0 W0.drew) := (Below.refl _ _).drew
 obtain ⟨V1, hV1⟩ : ∃ V, V = W0.drew := ⟨_, rfl⟩
 rw [← hV1] at hHeld KV1 ⊢
 clear hV1
 refine wpAnyH_take (i := 0) (oi := oBaseTm0) (v := .pointer (some ⟨b, 0, none⟩)) rfl (by kernel_rfl) (by kernel_rfl) (by kernel_rfl) (fun _ _ _ h => h) (Or.inl ⟨by rfl, fun w _ => by go_simp⟩) hHeld ?_
 simp only [zaP, zsT, zsZ, zsS]
 refine wpAnyH_take (i := 2) (oi := oBaseTm1) (v := .agg (num4A n)) rfl (by kernel_rfl) (by kernel_rfl) (by kernel_rfl) (fun _ _ _ h => h) (yldU (by rfl) _ rfl w.heap.size 0 n rfl (fun w h => h)) hHeld ?_
 simp only [zaP, zsT, zsZ, zsS]
 have G1 := hide (G0.out.keep KV1.out)
 have N1 := hide (N0.out.keep (KV1.out.block b lb0))
 refine wpAnyH_ready (rs := [1]) (by kernel_rfl) (by simp) ?_
 refine AllReadyH.cons (o := ⟨some 6, .call ⟨.value (.func 90), #[.tmp 5], #[58]⟩, 84, "base.go:28", #[zeD 0], none⟩) rfl (fun K hK => ?_) AllReadyH.nil
 refine step_callTo (by rfl) _ _ (hrunBasePow _ rfl (.pointer (some ⟨b, 0, none⟩)) rfl V1) _ (fun V2 => Bex b V1 V2 ∧ BaseDone V2 b) (basePowDone b V1 N1.out) (fun V2 HBx => ?_)
 have X2 : Hid (Bex b W0 V2) := (Bex.of KV1.out).trans HBx.1
 have D2 := hide HBx.2
 clear HBx
 have RN2 : Hid (V2.heap[w.heap.size]? = some (.cells (num4A n) 60 (0, 0))) := (X2.out.block _ (lt_row RN.out) (by omega)).trans RN.out
 have RZ2 : Hid (V2.heap[w.heap.size + 1]? = some (.cells (pA p0) 82 (0, 0))) := (X2.out.block _ (lt_row RZ.out) (by omega)).trans RZ.out
 have G2 := hide (G0.out.keepX X2.out h7)
 refine hK.out _ _ (rangeN RN2.out) (fun hHeld => ?_)
 clear hK K
 try simp only [zaP, zsT, zsZ, zsS]
 refine wpAnyH_ready (rs := [3]) (by kernel_rfl) (by simp) ?_
 refine AllReadyH.cons (o := ⟨some 8, .call ⟨.value (.func 91), #[.tmp 6, .tmp 7], #[84, 60]⟩, 82, "base.go:28", #[zeD 1, zeD 2, zeC 1], none⟩) rfl (fun K hK => ?_) AllReadyH.nil
 refine step_callTo (by rfl) _ _ (hrunPtTimes _ _ rfl (.agg (psA (pwN bpP) 4)) (.agg (num4A n)) rfl rfl V2) _ _ (ptTimesA (pwN bpP) (fun i _ => dblN_ok bpP_ok _) n V2 G2.out.gl) (fun V3 HBx => ?_)
 have RN3 := hide (row_keep' RN2.out HBx)
 have RZ3 := hide (row_keep' RZ2.out HBx)
 have D3 := hide (D2.out.keep (HBx.block b D2.out.lt))
 have X3 := hide (X2.out.trans (Bex.of HBx))
 clear HBx
 refine hK.out _ _ (rangeN RN3.out) (fun hHeld => ?_)
 clear hK K
 try simp only [zaP, zsT, zsZ, zsS]
 refine wpAnyH_ready (rs := [4]) (by kernel_rfl) (by simp) ?_
 refine AllReadyH.cons (o := oBaseTm4) rfl (fun K hK => ?_) AllReadyH.nil
 refine step_store_row _ (by rfl) 82 (.tmp 4) (.tmp 8) (by rfl) (w.heap.size + 1) (pA (mlP (pwN bpP) n 64)) (by rfl) (by rfl) 82 _ RZ3.out (pA_size _) (pA_old _ _) (pA_all _) ?_
 rw [put_none']
 refine hK.out _ _ (range_set (rangeN RN3.out) (by omega)) (fun _ => ?_)
 clear hK K
 try simp only [zaP, zsT, zsZ, zsS]
 refine wpAnyH_done (by kernel_rfl) ?_ _
 go_wp2_with fail
 have L2 : Below w.heap.size V3 (V3.setRow (w.heap.size + 1) (pA (mlP (pwN bpP) n 64))) := below_setRow (Below.refl _ _) (by omega) _
 refine bodyPost_ret (v := .agg (pA (mlP (pwN bpP) n 64))) (results_cell_row Tryz.results57 _ _ (w.heap.size + 1) 82 _ (0, 0) _ (by rfl) (setRow_heap _ _ _ _ _ _ RZ3.out) Tryz.underlying82 rfl (pA_size _)) rfl ⟨rfl, ((Bex.of (b := b) B0.out).trans X3.out).setRow (by omega) _, D3.out.keep (L2.block b lb)⟩
end
theorem results_two_rows {P : Program} {fn : Func} {p q : Tmp} {ty uy : TypeId} (h : fn.results = #[.cell p ty, .cell q uy]) (tmps : Array Value) (w : World) (g k : Nat) (t u : TypeId) (cs ds : Array Value) (fr gr : Nat × Nat) (d e : TypeDesc)
  (hp : tmps.getD p undef = .pointer (some ⟨g, 0, none⟩)) (hq : tmps.getD q undef = .pointer (some ⟨k, 0, none⟩)) (hg : w.heap[g]? = some (.cells cs t fr)) (hk : w.heap[k]? = some (.cells ds u gr))
  (hu : P.underlying ty = some d) (hd : (match d with | .struct _ | .array _ _ => true | _ => false) = true) (hi : (P.info? ty).map (·.size) = some cs.size)
  (hv : P.underlying uy = some e) (he : (match e with | .struct _ | .array _ _ => true | _ => false) = true) (hj : (P.info? uy).map (·.size) = some ds.size) :
  (results fn tmps).run P w = .ok (.tuple #[.agg cs, .agg ds]) w := by
 have hp' : tmps[p]?.getD undef = .pointer (some ⟨g, 0, none⟩) := by simpa using hp
 have hq' : tmps[q]?.getD undef = .pointer (some ⟨k, 0, none⟩) := by simpa using hq
 simp [results, h, hp', hq', asAddr, run_loadVar_row w g t ty cs fr d hg hu hd hi, run_loadVar_row w k u uy ds gr e hk hv he hj]
section
set_option maxRecDepth 100000 in
set_option maxHeartbeats 2000000 in
theorem wideA (a b c : Nat) (ha : a < 115792089237316195423570985008687907853269984665640564039457584007913129639936) (hb : b < 115792089237316195423570985008687907853269984665640564039457584007913129639936) (hc : c < 115792089237316195423570985008687907853269984665640564039457584007913129639936) (w : World) :
  Calls Tryz.prog 112 #[.agg (num4A a), .agg (num4A b), .agg (num4A c)] w fun e w' => e = .returned (.tuple #[.agg (num4A ((a * b + c) % 115792089237316195423570985008687907853269984665640564039457584007913129639936)), .agg (num4A ((a * b + c) / 115792089237316195423570985008687907853269984665640564039457584007913129639936))]) ∧ Below w.heap.size w w' := by
 have hz := zero4W
 have HA := hide ha
 have HBb := hide hb
 have HC := hide hc
 clear ha hb hc
 go_enter Tryz.func112, Tryz.ntmps112
 go_upto_region 1 with fail
 generalize hW0 : World.alloc _ _ = W0
 have R3 : Hid (W0.heap[w.heap.size]? = some (.cells (num4A a) 60 (0, 0))) := by rw [← hW0]; exact at5W_0 _ _ _ _ _ _
 have R4 : Hid (W0.heap[w.heap.size + 1]? = some (.cells (num4A b) 60 (0, 0))) := by rw [← hW0]; exact at5W_1 _ _ _ _ _ _
 have R5 : Hid (W0.heap[w.heap.size + 2]? = some (.cells (num4A c) 60 (0, 0))) := by rw [← hW0]; exact at5W_2 _ _ _ _ _ _
 have R6 : Hid (W0.heap[w.heap.size + 3]? = some (.cells (num4A 0) 60 (0, 0))) := by rw [← hW0]; exact at5W_3 _ _ _ _ _ _
 have R7 : Hid (W0.heap[w.heap.size + 4]? = some (.cells (num4A 0) 60 (0, 0))) := by rw [← hW0]; exact at5W_4 _ _ _ _ _ _
 have BL : Hid (Below w.heap.size w W0) := by rw [← hW0]; show Below _ _ _; go_grown
 clear hW0
 go_upto_region 2 with (first
  | (refine wpList_load_row (by rfl) 60 (.tmp 5) (by rfl) (w.heap.size + 2) (by rfl) 60 (num4A c) (0, 0) _ R5.out under4 rfl (size4W _) ?_)
  | (refine wpList_store_row (by rfl) 60 (.tmp 7) (.tmp 13) (by rfl) (w.heap.size + 4) (num4A c) (by rfl) (by rfl) 60 _ R7.out (size4W _) (n4W _ _) (num4A_all _) ?_))
 try rw [put_none']
 generalize hW1 : World.setRow _ _ _ = W1
 have S3 : Hid (W1.heap[w.heap.size]? = some (.cells (num4A a) 60 (0, 0))) := by rw [← hW1]; exact (setRow_other _ _ _ _ (by omega)).trans R3.out
 have S4 : Hid (W1.heap[w.heap.size + 1]? = some (.cells (num4A b) 60 (0, 0))) := by rw [← hW1]; exact (setRow_other _ _ _ _ (by omega)).trans R4.out
 have S6 : Hid (W1.heap[w.heap.size + 3]? = some (.cells (num4A 0) 60 (0, 0))) := by rw [← hW1]; exact (setRow_other _ _ _ _ (by omega)).trans R6.out
 have S7 : Hid (W1.heap[w.heap.size + 4]? = some (.cells (num4A c) 60 (0, 0))) := by rw [← hW1]; exact setRow_heap _ _ _ _ _ _ R7.out
 have SB : Hid (Below w.heap.size w W1) := by rw [← hW1]; exact below_setRow BL.out (by omega) _
 clear hW1 R3 R4 R5 R6 R7 BL
 go_wp2_with (first
  | (refine wpList_load_row (by rfl) 60 (.tmp 3) (by rfl) w.heap.size (by rfl) 60 (num4A a) (0, 0) _ S3.out under4 rfl (size4W _) ?_))
 go_loopw [15] (fun i wr => ∃ k L H : Nat, k ≤ 4 ∧ i = .int .i64 k ∧ Hid (L < 18446744073709551616 ^ k) ∧ Hid (H < 115792089237316195423570985008687907853269984665640564039457584007913129639936) ∧ Hid (L + H * 18446744073709551616 ^ k = a % 18446744073709551616 ^ k * b + c) ∧ Hid (wr.heap[w.heap.size + 1]? = some (.cells (num4A b) 60 (0, 0))) ∧ Hid (wr.heap[w.heap.size + 3]? = some (.cells (num4A L) 60 (0, 0))) ∧ Hid (wr.heap[w.heap.size + 4]? = some (.cells (num4A H) 60 (0, 0))) ∧ Hid (Below w.heap.size w wr)) (fun i _ => 4 - (intOf i).toNat)
 case atStart => exact ⟨0, 0, c, by omega, rfl, hide (by decide), HC, hide (by rw [Nat.pow_zero, Nat.mod_one, Nat.zero_mul, Nat.mul_one]), S4, S6, S7, SB⟩
 case round =>
  clear S3 S4 S6 S7 SB
  obtain ⟨k, L, H, hk, rfl, HL, HH, HE, R4, R6, R7, BL⟩ := hrel
  by_cases hlt : k < 4
  ·
   have bk : (k : Int) < 4 := by omega
   have hix := index4W a k hlt
   obtain ⟨u, Eu⟩ : ∃ u, Hid (u = wd a k) := ⟨_, hide rfl⟩
   have hu : u < 18446744073709551616 := by rw [Eu.out]; exact wd_lt a k
   rw [← Eu.out] at hix
   go_wp2_with (first
    | (refine wpList_load_row (by rfl) 60 (.tmp 4) (by rfl) (w.heap.size + 1) (by rfl) 60 (num4A b) (0, 0) _ R4.out under4 rfl (size4W _) ?_))
   go_loopw [10, 20] (fun cr j wx => ∃ t X cc : Nat, t ≤ 4 ∧ cr = nv cc ∧ j = .int .i64 t ∧ Hid (X < 115792089237316195423570985008687907853269984665640564039457584007913129639936) ∧ Hid (cc < 18446744073709551616) ∧ Hid (X + cc * 18446744073709551616 ^ t = H + u * (b % 18446744073709551616 ^ t)) ∧ Hid (wx.heap[w.heap.size + 1]? = some (.cells (num4A b) 60 (0, 0))) ∧ Hid (wx.heap[w.heap.size + 3]? = some (.cells (num4A L) 60 (0, 0))) ∧ Hid (wx.heap[w.heap.size + 4]? = some (.cells (num4A X) 60 (0, 0))) ∧ Hid (Below w.heap.size w wx)) (fun _ j _ => 4 - (intOf j).toNat)
   case atStart => exact ⟨0, H, 0, by omega, rfl, rfl, HH, hide (by decide), hide (by rw [Nat.pow_zero, Nat.mod_one, Nat.mul_zero, Nat.zero_mul]), R4, R6, R7, BL⟩
   case round =>
    clear R4 R6 R7 BL
    obtain ⟨t, X, cc, ht, rfl, rfl, HX, Hcc, HS, R4, R6, R7, BL⟩ := hrel
    by_cases hl2 : t < 4
    ·
     have bt : (t : Int) < 4 := by omega
     have hix2 := index4W b t hl2
     have c7 := num4A_cell R7.out t hl2
     have f7 := frozen_of_row wr (w.heap.size + 4) t _ _ R7.out
     go_wp2_with fail
     refine (mulAdd_new u (wd b t) (wd X t) cc hu (wd_lt _ _) (wd_lt _ _) Hcc.out _).mono ?_
     rintro e w' ⟨lo, hi, rfl, ⟨hlo, hhi, hm⟩, rfl⟩
     have HM := hide hm
     have Hhi := hide hhi
     have Hlo := hide hlo
     clear hm hhi hlo
     go_wp2_with fail
     obtain ⟨e1, e2⟩ := setW_row X t lo HX.out hl2 Hlo.out
     refine ⟨⟨t + 1, setW X t lo, hi, by omega, rfl, by go_num, hide e2, Hhi, hide (step_W X cc H u b t lo hi HS.out HM.out), ?_, ?_, ?_, BL.out.setCell (by show _ ≤ _; simp <;> omega) _⟩, by simp [intOf]; omega⟩
     · exact (Below.heap_setCell _ _ _ _ (by simp)).trans R4.out
     · exact (Below.heap_setCell _ _ _ _ (by simp)).trans R6.out
     ·
      have e := row_store (cs := [nv (wd X 0), nv (wd X 1), nv (wd X 2), nv (wd X 3)]) R7.out t (nv lo)
      rw [e1] at e
      exact e
    ·
     obtain rfl : t = 4 := by omega
     have bt : (4 : Int) ≤ ((4 : Nat) : Int) := by omega
     have c70 := num4A_cell R7.out 0 (by decide)
     have c71 := num4A_cell R7.out 1 (by decide)
     have c72 := num4A_cell R7.out 2 (by decide)
     have c73 := num4A_cell R7.out 3 (by decide)
     have c6 := num4A_cell R6.out k hlt
     have f6 := frozen_of_row wr (w.heap.size + 3) k _ _ R6.out
     have HX4 : Hid (X + cc * 18446744073709551616 ^ 4 = H + wd a k * b) := by
      show _ = _
      have e := HS.out
      rw [Nat.mod_eq_of_lt (show b < 18446744073709551616 ^ 4 from HBb.out), Eu.out] at e
      exact e
     obtain ⟨z, Ez⟩ : ∃ z, Hid (z = wd X 0) := ⟨_, hide rfl⟩
     obtain ⟨x1, Ex1⟩ : ∃ z, Hid (z = wd X 1) := ⟨_, hide rfl⟩
     obtain ⟨x2, Ex2⟩ : ∃ z, Hid (z = wd X 2) := ⟨_, hide rfl⟩
     obtain ⟨x3, Ex3⟩ : ∃ z, Hid (z = wd X 3) := ⟨_, hide rfl⟩
     rw [← Ez.out] at c70
     rw [← Ex1.out] at c71
     rw [← Ex2.out] at c72
     rw [← Ex3.out] at c73
     clear hl2 ht
     go_upto_region 12 with fail
     generalize hW2 : World.setCell _ _ _ = W2
     obtain ⟨e1, _⟩ := setW_row L k z (Nat.lt_of_lt_of_le HL.out (show 18446744073709551616 ^ k ≤ 18446744073709551616 ^ 4 from Nat.pow_le_pow_right (by decide) (by omega))) hlt (by rw [Ez.out]; exact wd_lt _ _)
     have R4' : Hid (W2.heap[w.heap.size + 1]? = some (.cells (num4A b) 60 (0, 0))) := by rw [← hW2]; exact (Below.heap_setCell _ _ _ _ (by simp)).trans R4.out
     have R6' : Hid (W2.heap[w.heap.size + 3]? = some (.cells (num4A (setW L k z)) 60 (0, 0))) := by
      rw [← hW2]
      have e := row_store (cs := [nv (wd L 0), nv (wd L 1), nv (wd L 2), nv (wd L 3)]) R6.out k (nv z)
      rw [e1] at e
      exact e
     have R7' : Hid (W2.heap[w.heap.size + 4]? = some (.cells (num4A X) 60 (0, 0))) := by rw [← hW2]; exact (Below.heap_setCell _ _ _ _ (by simp)).trans R7.out
     have BL' : Hid (Below w.heap.size w W2) := by rw [← hW2]; exact BL.out.setCell (by show _ ≤ _; simp <;> omega) _
     have c71 := num4A_cell R7'.out 1 (by decide)
     have c72 := num4A_cell R7'.out 2 (by decide)
     have c73 := num4A_cell R7'.out 3 (by decide)
     rw [← Ex1.out] at c71
     rw [← Ex2.out] at c72
     rw [← Ex3.out] at c73
     obtain ⟨s1, s2⟩ := shift_row X cc HX.out Hcc.out
     rw [← Ex1.out, ← Ex2.out, ← Ex3.out] at s1
     have HS1 := hide s1
     have HRW := hide (round_W a b c L H X cc k HL.out HE.out HX4.out)
     rw [← Ez.out] at HRW
     have HS2 := hide s2
     clear hW2 R4 R6 R7 BL c6 f6 s1 s2
     go_wp2_with (first
      | (refine wpList_store_row (by rfl) 60 (.tmp 7) (.tmp 48) (by rfl) (w.heap.size + 4) #[nv x1, nv x2, nv x3, nv cc] (by rfl) (by rfl) 60 _ R7'.out size4 rfl (w4_cell _ _ _ _) ?_))
     --END
     refine ⟨⟨k + 1, setW L k z, X / 18446744073709551616 + cc * 6277101735386680763835789423207666416102355444464034512896, by omega, by go_num, hide HRW.out.1, HS2, hide HRW.out.2, ?_, ?_, ?_, hide (below_setRow BL'.out (by omega) _)⟩, by simp [intOf]; omega⟩
     · exact (setRow_other _ _ _ _ (by omega)).trans R4'.out
     · exact (setRow_other _ _ _ _ (by omega)).trans R6'.out
     · rw [HS1.out]; exact setRow_heap _ _ _ _ _ _ R7'.out
  ·
   obtain rfl : k = 4 := by omega
   have bk : (4 : Int) ≤ ((4 : Nat) : Int) := by omega
   go_upto_region 14 with fail
   refine wp_region_held_drew (S := fun w' => w'.rangeAt (w.heap.size + 3) 0 (nL L) ∧ w'.rangeAt (w.heap.size + 4) 0 (nL H)) (by kernel_rfl) ⟨rangeN R6.out, rangeN R7.out⟩ (fun hHeld => ?_)
   have R6 : Hid (wr.drew.heap[w.heap.size + 3]? = some (.cells (num4A L) 60 (0, 0))) := R6
   have R7 : Hid (wr.drew.heap[w.heap.size + 4]? = some (.cells (num4A H) 60 (0, 0))) := R7
   have BL : Hid (Below w.heap.size w wr.drew) := BL.out.drew
   obtain ⟨V1, hV1⟩ : ∃ V, V = wr.drew := ⟨_, rfl⟩
   rw [← hV1] at hHeld R6 R7 BL ⊢
   clear hV1
   refine wpAnyH_take (i := 0) (oi := ⟨some 50, .load 60 (.tmp 6), 60, "scalar.go:67", #[], none⟩) (v := .agg (num4A L)) rfl (by kernel_rfl) (by kernel_rfl) (by kernel_rfl) (fun _ _ _ h => h) (yldU (by rfl) _ rfl (w.heap.size + 3) 0 L rfl (fun w h => h.1)) hHeld ?_
   simp only [zaP, zsT, zsZ, zsS]
   refine wpAnyH_take (i := 1) (oi := ⟨some 51, .load 60 (.tmp 7), 60, "scalar.go:67", #[⟨2, .gcOnly .lateStores⟩], none⟩) (v := .agg (num4A H)) rfl (by kernel_rfl) (by kernel_rfl) (by kernel_rfl) (fun _ _ _ h => h) (yldU (by rfl) _ rfl (w.heap.size + 4) 0 H rfl (fun w h => h.2)) hHeld ?_
   simp only [zaP, zsT, zsZ, zsS]
   refine wpAnyH_ready (rs := [2]) (by kernel_rfl) (by simp) ?_
   refine AllReadyH.cons (o := ⟨none, .store 60 (.tmp 6) (.tmp 50), 0, "scalar.go:67", #[zeD 0, zeP 0, ⟨1, .textOnly .lateStores⟩], none⟩) rfl (fun K hK => ?_) AllReadyH.nil
   refine step_store_row _ (by rfl) 60 (.tmp 6) (.tmp 50) (by rfl) (w.heap.size + 3) (num4A L) (by rfl) (by rfl) 60 _ R6.out (size4W _) (n4W _ _) (num4A_all _) ?_
   rw [put_none']
   obtain ⟨V2, hV2⟩ : ∃ V, V = World.setRow V1 (w.heap.size + 3) (num4A L) := ⟨_, rfl⟩
   have R6 : Hid (V2.heap[w.heap.size + 3]? = some (.cells (num4A L) 60 (0, 0))) := by rw [hV2]; exact setRow_heap _ _ _ _ _ _ R6.out
   have R7 : Hid (V2.heap[w.heap.size + 4]? = some (.cells (num4A H) 60 (0, 0))) := by rw [hV2]; exact (setRow_other _ _ _ _ (by omega)).trans R7.out
   have BL : Hid (Below w.heap.size w V2) := by rw [hV2]; exact below_setRow BL.out (by omega) _
   rw [← hV2]
   clear hV2
   refine hK.out _ _ ⟨rangeN R6.out, rangeN R7.out⟩ (fun hHeld => ?_)
   clear hK K
   try simp only [zaP, zsT, zsZ, zsS]
   refine wpAnyH_ready (rs := [3]) (by kernel_rfl) (by simp) ?_
   refine AllReadyH.cons (o := ⟨none, .store 60 (.tmp 7) (.tmp 51), 0, "scalar.go:67", #[zeD 1, zeC 2, zeP 0, zeP 1, zeP 2], none⟩) rfl (fun K hK => ?_) AllReadyH.nil
   refine step_store_row _ (by rfl) 60 (.tmp 7) (.tmp 51) (by rfl) (w.heap.size + 4) (num4A H) (by rfl) (by rfl) 60 _ R7.out (size4W _) (n4W _ _) (num4A_all _) ?_
   rw [put_none']
   obtain ⟨V3, hV3⟩ : ∃ V, V = World.setRow V2 (w.heap.size + 4) (num4A H) := ⟨_, rfl⟩
   have R7 : Hid (V3.heap[w.heap.size + 4]? = some (.cells (num4A H) 60 (0, 0))) := by rw [hV3]; exact setRow_heap _ _ _ _ _ _ R7.out
   have R6 : Hid (V3.heap[w.heap.size + 3]? = some (.cells (num4A L) 60 (0, 0))) := by rw [hV3]; exact (setRow_other _ _ _ _ (by omega)).trans R6.out
   have BL : Hid (Below w.heap.size w V3) := by rw [hV3]; exact below_setRow BL.out (by omega) _
   rw [← hV3]
   clear hV3
   refine hK.out _ _ ⟨rangeN R6.out, rangeN R7.out⟩ (fun hHeld => ?_)
   clear hK K
   try simp only [zaP, zsT, zsZ, zsS]
   refine wpAnyH_done (by kernel_rfl) ?_ _
   go_wp2_with fail
   refine bodyPost_ret (v := .tuple #[.agg (num4A L), .agg (num4A H)]) (results_two_rows Tryz.results112 _ _ (w.heap.size + 3) (w.heap.size + 4) _ _ _ _ _ _ _ _ (by rfl) (by rfl) R6.out R7.out under4 rfl (size4W _) under4 rfl (size4W _)) rfl ⟨?_, BL.out⟩
   have e := HE.out
   rw [Nat.mod_eq_of_lt (show a < 18446744073709551616 ^ 4 from HA.out)] at e
   have l := HL.out
   have e4 : (18446744073709551616 : Nat) ^ 4 = 115792089237316195423570985008687907853269984665640564039457584007913129639936 := by decide
   rw [e4] at e l
   rw [show (a * b + c) % 115792089237316195423570985008687907853269984665640564039457584007913129639936 = L by omega, show (a * b + c) / 115792089237316195423570985008687907853269984665640564039457584007913129639936 = H by omega]
end
end Go.Proofs.YtccgfabojbjmjaaGreatDoor
