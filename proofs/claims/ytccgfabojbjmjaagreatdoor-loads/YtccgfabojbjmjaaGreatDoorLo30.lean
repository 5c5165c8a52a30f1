import Derived.Test.YtccgfabojbjmjaaGreatDoorLo28
set_option maxRecDepth 100000
set_option maxHeartbeats 8000000
namespace Go.Proofs.YtccgfabojbjmjaaGreatDoor
open Go.RowKit
open Go.RowKit
abbrev yac : Oper := ⟨some 8, .call ⟨.value (.func 91), #[.tmp 6, .tmp 7], #[84, 60]⟩, 82, "base.go:28", #[ql 1, ql 2, qT 1], none⟩
abbrev yad : Oper := ⟨some 6, .call ⟨.value (.func 90), #[.tmp 5], #[58]⟩, 84, "base.go:28", #[ql 0], none⟩
abbrev qh3 : Oper := ⟨some 5, .move (.tmp 0), 58, "base.go:28", #[], none⟩
abbrev qhK : Oper := ⟨some 7, .load 60 (.tmp 3), 60, "base.go:28", #[], none⟩
abbrev qhZ : Oper := ⟨none, .store 82 (.tmp 4) (.tmp 8), 0, "base.go:28", #[ql 3, qT 3, qj 0, qj 1, qj 2, qj 3], none⟩
theorem Qq.keepX {w w' : World} {b : Nat} (h : Qq w) (hb : qG b w w') (h7 : 13 ≤ b) : Qq w' := by
 obtain ⟨t0, f0, e0⟩ := h.gl.g0
 obtain ⟨t1, f1, e1⟩ := h.gl.g1
 obtain ⟨t3, f3, e3⟩ := h.gl.g3
 obtain ⟨t4, f4, e4⟩ := h.gl.g4
 obtain ⟨t5, f5, e5⟩ := h.gl.g5
 obtain ⟨t, f, e⟩ := h.gc
 exact ⟨⟨⟨t0, f0, (hb.block _ (qh e0) (by omega)).trans e0⟩, ⟨t1, f1, (hb.block _ (qh e1) (by omega)).trans e1⟩, ⟨t3, f3, (hb.block _ (qh e3) (by omega)).trans e3⟩, ⟨t4, f4, (hb.block _ (qh e4) (by omega)).trans e4⟩, ⟨t5, f5, (hb.block _ (qh e5) (by omega)).trans e5⟩⟩, t, f, (hb.block _ (qh e) (by omega)).trans e⟩
theorem qt8 {ops : Array Oper} {S : World → Prop} {op : Oper} {a : Act} (hw : Region.wanted op (yielded ops a.tmps) = true) (x : Operand) (ho : op.op = .load 60 x)
  (b o n : Nat) (hx : a.eval x = .pointer (some ⟨b, o, none⟩)) (hS : ∀ w, S w → w.rangeAt b o (nL n)) : YieldsIf Tryz.prog ops S op (.agg (qb n)) a :=
 YE hw _ x ho b o hx (nL n) (qb n) rfl _ hS Jr rfl Ju
theorem qdv {a : Act} {o : Oper} (x : Operand) (ho : o.op = .call { callee := .value (.func 90), args := #[x], argTypes := #[58] }) (v1 : Value) (hx : a.eval x = v1) (w : World) :
  (execOp a.eval o).run Tryz.prog w = .ok (.enter 90 #[v1]) w := by
 unfold execOp
 simp only [ho]
 subst hx
 go_simp
section
attribute [local irreducible] qb nL pA qP jb pL bA qX Qh jg
theorem qdL (b : Nat) (w : World) (hN : ZU w b) :
  Calls Tryz.prog 90 #[zp b 0] w fun e w' => e = .returned (.agg (qP (qR qX) 4)) ∧ qG b w w' ∧ ZU w' b := by
 have hz := qfT
 have hmf : ∀ (fn : Fn) (first cap : Array Value) (w : World), (Instr.makeFunc fn first cap).run Tryz.prog w = .ok (.func fn first cap) w := fun _ _ _ _ => rfl
 have HN := qa hN
 have lb := hN.lt
 clear hN
 go_enter Tryz.func90, Tryz.ntmps90
 go_upto_region 1 with fail
 generalize hW0 : World.alloc _ _ = W0
 have B0 : Hid (zB w W0) := by rw [← hW0]; show Below _ _ _; go_grown
 have RZ : Hid (qi W0 (w.heap.size + 1) (qP jH 4) 84) := by rw [← hW0]; exact Zd _ _ _
 have CP : W0.cell? ⟨w.heap.size, 0, none⟩ = some (zp b 0) := by rw [← hW0]; simp
 clear hW0
 have N0 := qa (HN.o.keep (B0.o.block b lb))
 go_wp2_with fail
 refine (qq7 ⟨b, 0, none⟩ 1 (by decide) _ W0 N0.o.c0).mono ?_
 rintro e W1 ⟨rfl, rfl⟩
 go_wp2_with (first
  | (refine zG (by rfl) 84 (.tmp 10) (by rfl) b 3 (by rfl) (jb (qR qX) 4) _ N0.o.rd JS rfl (qff _) ?_)
  | (refine qB 84 (.tmp 2) (.tmp 11) (w.heap.size + 1) (jb (qR qX) 4).toArray RZ.o (qaS _) (qeN _ _) (qcO _ _) ?_))
 have L2 := ze (B0.o) (show w.heap.size ≤ w.heap.size + 1 by omega) (jb (qR qX) 4).toArray
 refine zh (v := .agg (jb (qR qX) 4).toArray) (results_cell_row Tryz.results90 _ _ (w.heap.size + 1) 84 _ (0, 0) _ (by rfl) (zd _ _ _ _ _ _ RZ.o) JS rfl (qaS _)) rfl ⟨by rw [qhC], qG.of L2, HN.o.keep (L2.block b lb)⟩
theorem qf7 (b n : Nat) (w : World) (hG : Qq w) (h7 : 13 ≤ b) (hN : YG w b) :
  Calls Tryz.prog 57 #[zp b 0, .agg (qb n)] w fun e w' => e = .returned (.agg (pA (qV (qR qX) n 64))) ∧ qG b w w' ∧ ZU w' b := by
 have hzp := yK
 have HG := qa hG
 have HN := qa hN
 have lb := hN.lt
 clear hG hN
 go_enter Tryz.func57, Tryz.ntmps57
 go_upto_region 1 with fail
 generalize hW0 : World.alloc _ _ = W0
 have B0 : Hid (zB w W0) := by rw [← hW0]; show Below _ _ _; go_grown
 have RN : Hid (qi W0 w.heap.size (qb n) 60) := by rw [← hW0]; exact (zb _ _ (by simp)).trans (za _ _)
 have RZ : Hid (qi W0 (w.heap.size + 1) (pA p0) 82) := by rw [← hW0]; exact Zd _ _ _
 clear hW0
 have N0 := qa (HN.o.keep (B0.o.block b lb))
 have G0 := qa (HG.o.keep B0.o)
 have lb0 := N0.o.lt
 refine zM (S := fun w' => w'.rangeAt w.heap.size 0 (nL n)) (by kernel_rfl) (Qu RN.o) (fun hHeld => ?_)
 have KV1 : Hid (zB W0 W0.drew) := (zJ _ _).drew
 obtain ⟨V1, hV1⟩ := zy W0.drew
 rw [← hV1] at hHeld KV1 ⊢
 clear hV1
 refine zU 0 qh3 (zp b 0) ?_
 simp only [qd]
 refine zT 2 qhK (.agg (qb n)) (qt8 (by rfl) _ rfl w.heap.size 0 n rfl (fun w h => h)) ?_
 simp only [qd]
 have G1 := qa (G0.o.keep KV1.o)
 have N1 := qa (N0.o.keep (KV1.o.block b lb0))
 refine zR 1 yad fun K hK => ?_
 refine YS (by rfl) _ _ (qdv _ rfl (zp b 0) rfl V1) _ (fun V2 => qG b V1 V2 ∧ ZU V2 b) (qeh b V1 G1.o h7 N1.o) (fun V2 HBx => ?_)
 have X2 : Hid (qG b W0 V2) := (qG.of KV1.o).trans HBx.1
 have D2 := qa HBx.2
 clear HBx
 have RN2 : Hid (qi V2 w.heap.size (qb n) 60) := (X2.o.block _ (qh RN.o) (by omega)).trans RN.o
 have RZ2 : Hid (qi V2 (w.heap.size + 1) (pA p0) 82) := (X2.o.block _ (qh RZ.o) (by omega)).trans RZ.o
 have G2 := qa (G0.o.keepX X2.o h7)
 refine hK.o _ _ (Qu RN2.o) (fun hHeld => ?_)
 try simp only [qd]
 refine zR 3 yac fun K hK => ?_
 refine zE (qaJ _ _ rfl (.agg (qP (qR qX) 4)) (.agg (qb n)) rfl rfl V2) (qbQ (qR qX) (fun i _ => qdr qkQ _) n V2 G2.o.gl) fun V3 HBx => ?_
 have RN3 := qa (qk RN2.o HBx)
 have RZ3 := qa (qk RZ2.o HBx)
 have D3 := qa (D2.o.keep (HBx.block b D2.o.lt))
 have X3 := qa (X2.o.trans (qG.of HBx))
 clear HBx
 refine hK.o _ _ (Qu RN3.o) (fun hHeld => ?_)
 try simp only [qd]
 refine zR 4 qhZ fun K hK => ?_
 refine zQ 82 (.tmp 4) (.tmp 8) (w.heap.size + 1) (pA (qV (qR qX) n 64)) RZ3.o (jO _) (ZK _ _) (QJ _) ?_
 rw [qH]
 refine hK.o _ _ (qF (Qu RN3.o) (by omega)) (fun _ => ?_)
 try simp only [qd]
 refine zi (by kernel_rfl) ?_ _
 go_wp2_with fail
 have L2 : Below w.heap.size V3 (V3.setRow (w.heap.size + 1) (pA (qV (qR qX) n 64))) := ze (zJ _ _) (by omega) _
 refine zh (v := .agg (pA (qV (qR qX) n 64))) (results_cell_row Tryz.results57 _ _ (w.heap.size + 1) 82 _ (0, 0) _ (by rfl) (zd _ _ _ _ _ _ RZ3.o) Tryz.underlying82 rfl (jO _)) rfl ⟨rfl, ((qG.of (b := b) B0.o).trans X3.o).setRow (by omega) _, D3.o.keep (L2.block b lb)⟩
theorem qfg (b n : Nat) (w : World) (hG : Qq w) (h7 : 13 ≤ b) (hN : ZU w b) :
  Calls Tryz.prog 57 #[zp b 0, .agg (qb n)] w fun e w' => e = .returned (.agg (pA (qV (qR qX) n 64))) ∧ qG b w w' ∧ ZU w' b := by
 have hzp := yK
 have HG := qa hG
 have HN := qa hN
 have lb := hN.lt
 clear hG hN
 go_enter Tryz.func57, Tryz.ntmps57
 go_upto_region 1 with fail
 generalize hW0 : World.alloc _ _ = W0
 have B0 : Hid (zB w W0) := by rw [← hW0]; show Below _ _ _; go_grown
 have RN : Hid (qi W0 w.heap.size (qb n) 60) := by rw [← hW0]; exact (zb _ _ (by simp)).trans (za _ _)
 have RZ : Hid (qi W0 (w.heap.size + 1) (pA p0) 82) := by rw [← hW0]; exact Zd _ _ _
 clear hW0
 have N0 := qa (HN.o.keep (B0.o.block b lb))
 have G0 := qa (HG.o.keep B0.o)
 have lb0 := N0.o.lt
 refine zM (S := fun w' => w'.rangeAt w.heap.size 0 (nL n)) (by kernel_rfl) (Qu RN.o) (fun hHeld => ?_)
 have KV1 : Hid (zB W0 W0.drew) := (zJ _ _).drew
 obtain ⟨V1, hV1⟩ := zy W0.drew
 rw [← hV1] at hHeld KV1 ⊢
 clear hV1
 refine zU 0 qh3 (zp b 0) ?_
 simp only [qd]
 refine zT 2 qhK (.agg (qb n)) (qt8 (by rfl) _ rfl w.heap.size 0 n rfl (fun w h => h)) ?_
 simp only [qd]
 have G1 := qa (G0.o.keep KV1.o)
 have N1 := qa (N0.o.keep (KV1.o.block b lb0))
 refine zR 1 yad fun K hK => ?_
 refine YS (by rfl) _ _ (qdv _ rfl (zp b 0) rfl V1) _ (fun V2 => qG b V1 V2 ∧ ZU V2 b) (qdL b V1 N1.o) (fun V2 HBx => ?_)
 have X2 : Hid (qG b W0 V2) := (qG.of KV1.o).trans HBx.1
 have D2 := qa HBx.2
 clear HBx
 have RN2 : Hid (qi V2 w.heap.size (qb n) 60) := (X2.o.block _ (qh RN.o) (by omega)).trans RN.o
 have RZ2 : Hid (qi V2 (w.heap.size + 1) (pA p0) 82) := (X2.o.block _ (qh RZ.o) (by omega)).trans RZ.o
 have G2 := qa (G0.o.keepX X2.o h7)
 refine hK.o _ _ (Qu RN2.o) (fun hHeld => ?_)
 try simp only [qd]
 refine zR 3 yac fun K hK => ?_
 refine zE (qaJ _ _ rfl (.agg (qP (qR qX) 4)) (.agg (qb n)) rfl rfl V2) (qbQ (qR qX) (fun i _ => qdr qkQ _) n V2 G2.o.gl) fun V3 HBx => ?_
 have RN3 := qa (qk RN2.o HBx)
 have RZ3 := qa (qk RZ2.o HBx)
 have D3 := qa (D2.o.keep (HBx.block b D2.o.lt))
 have X3 := qa (X2.o.trans (qG.of HBx))
 clear HBx
 refine hK.o _ _ (Qu RN3.o) (fun hHeld => ?_)
 try simp only [qd]
 refine zR 4 qhZ fun K hK => ?_
 refine zQ 82 (.tmp 4) (.tmp 8) (w.heap.size + 1) (pA (qV (qR qX) n 64)) RZ3.o (jO _) (ZK _ _) (QJ _) ?_
 rw [qH]
 refine hK.o _ _ (qF (Qu RN3.o) (by omega)) (fun _ => ?_)
 try simp only [qd]
 refine zi (by kernel_rfl) ?_ _
 go_wp2_with fail
 have L2 : Below w.heap.size V3 (V3.setRow (w.heap.size + 1) (pA (qV (qR qX) n 64))) := ze (zJ _ _) (by omega) _
 refine zh (v := .agg (pA (qV (qR qX) n 64))) (results_cell_row Tryz.results57 _ _ (w.heap.size + 1) 82 _ (0, 0) _ (by rfl) (zd _ _ _ _ _ _ RZ3.o) Tryz.underlying82 rfl (jO _)) rfl ⟨rfl, ((qG.of (b := b) B0.o).trans X3.o).setRow (by omega) _, D3.o.keep (L2.block b lb)⟩
end
end Go.Proofs.YtccgfabojbjmjaaGreatDoor
