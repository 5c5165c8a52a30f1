import Derived.Test.YtccgfabojbjmjaaGreatDoorLo28
import Derived.Laws.CopyOwn
set_option maxRecDepth 100000
set_option maxHeartbeats 8000000
namespace Go.Proofs.YtccgfabojbjmjaaGreatDoor
open Go.RowKit
theorem qfs (b : Nat) (w : World) :
  (Instr.sliceAt 102 (zp b 0) (some (.int .i64 32)) none none).run Tryz.prog w = .ok (.slice (some ⟨b, 32, none⟩) 32 32) w := by
 cases hq : Tryz.prog.info? 5 with
 | none => have := qhB; rw [hq] at this; cases this
 | some i =>
  have hb : (Instr.sliceBound (.int .i64 32) 64 .sliceB).run Tryz.prog w = .ok 32 w := rfl
  have hs : i.size = 1 := by have := qhB; rw [hq] at this; simpa using this
  simp [Instr.sliceAt, Instr.sureAddr, run_underlying Jh, Instr.sliceBounds, sizeOf, typeInfo, hq, hs, Addr.add, hb]
theorem qj2 (b : Nat) (w : World) :
  (Instr.sliceAt 102 (zp b 0) none (some (.int .i64 32)) none).run Tryz.prog w = .ok (.slice (some ⟨b, 0, none⟩) 32 64) w := by
 cases hq : Tryz.prog.info? 5 with
 | none => have := qhB; rw [hq] at this; cases this
 | some i =>
  have hb : (Instr.sliceBound (.int .i64 32) 64 .sliceAlen).run Tryz.prog w = .ok 32 w := rfl
  simp [Instr.sliceAt, Instr.sureAddr, run_underlying Jh, Instr.sliceBounds, sizeOf, typeInfo, hq, Addr.add, hb]
theorem qfl (b o : Nat) (w : World) :
  (Instr.sliceAt 62 (.pointer (some ⟨b, o, none⟩)) none none none).run Tryz.prog w = .ok (.slice (some ⟨b, o, none⟩) 32 32) w := by
 cases hq : Tryz.prog.info? 5 with
 | none => have := qhB; rw [hq] at this; cases this
 | some i =>
  simp [Instr.sliceAt, Instr.sureAddr, run_underlying ZH, Instr.sliceBounds, sizeOf, typeInfo, hq, Addr.add]
open Go.RowKit
theorem qrp : (#[nv 6346243789798364141, nv 1503914060200516822, nv 0, nv 1152921504606846976] : Array Value) = qb jf := by kernel_rfl
theorem qmi (n : Nat) : (Tryz.prog.info? 60).map (·.size) = some (qb n).size := Ju
theorem qtH (w : World) : (zeroValue 60).run Tryz.prog w = .ok (.agg (qb 0)) w := by kernel_rfl
theorem qqF (a b : Nat) : (V (Yf a b) == 1) = decide (a < b) := by
 unfold Yf V
 by_cases h : a < b
 · rw [if_pos h, zN h]; rfl
 · rw [if_neg h, zD h]; rfl
section
attribute [local irreducible] qb
theorem isA (n : Nat) (hn : n < 115792089237316195423570985008687907853269984665640564039457584007913129639936) (w : World) (hO : QT w) :
  zC 115 #[.agg (qb n)] w (.bool (decide (n < jf))) := by
 have hz := qtH
 have HN := qa hn
 obtain ⟨TT, frr, ho⟩ := hO.row
 rw [qrp] at ho
 have HO := qa ho
 have lO := qh ho
 have hlt := qqF n jf
 clear hn hO ho
 go_enter Tryz.func115, Tryz.ntmps115
 go_upto_region 1 with fail
 generalize hW0 : World.alloc _ _ = W0
 have R1 : Hid (qi W0 w.heap.size (qb n) 60) := by rw [← hW0]; exact za _ _
 have RO : Hid (W0.heap[6]? = some (.cells (qb jf) TT frr)) := by rw [← hW0]; exact (zb _ _ lO).trans HO.o
 have BL : Hid (zB w W0) := by rw [← hW0]; show Below _ _ _; go_grown
 clear hW0
 go_wp2_with (first
  | (refine zL 60 (.tmp 1) w.heap.size (qb n) R1.o Jr (qmi _) ?_)
  | (refine zg (by rfl) 60 (.global 6) (by rfl) 6 (by rfl) TT (qb jf) frr _ RO.o Jr rfl (qmi _) ?_))
 refine (qvF n jf HN.o (by decide) _).mono ?_
 rintro e W1 ⟨d, rfl, hB⟩
 have BL := qq BL hB
 clear hB
 go_upto_region 2 with (first
  | (refine qB 60 (.tmp 3) (.tmp 9) W1.heap.size (qb d) (za _ _) (qmi _) (QL _ _) (qY _) ?_))
 try rw [qH]
 generalize hW2 : World.setRow _ _ _ = W2
 have BL2 : Hid (zB w W2) := by rw [← hW2]; exact ze (BL.o.alloc BL.o.size _) BL.o.size _
 clear hW2
 go_wp2_with fail
 go_returns
 exact ⟨rfl, BL2.o⟩
end
open Go.RowKit
def Qy (p : Pt) : Pt := ⟨sP 0 p.x, p.y, p.z, sP 0 p.t⟩
theorem qcr {p : Pt} (h : p.Ok) : (Qy p).Ok := ⟨jR _ _, h.y, h.z, jR _ _⟩
theorem qtF {p : Pt} {a : G} (h : RP p a) : RP (Qy p) (Jy a) := by
 refine ⟨qcr h.ok, h.z, ?_, h.y, ?_⟩
 ·
  show qp (sP 0 p.x) = -a.x * qp p.z
  rw [J6 _ _ h.ok.x, kC, h.x]
  generalize qp p.z = z; generalize a.x = x; grind
 ·
  show qp (sP 0 p.t) = -a.x * a.y * qp p.z
  rw [J6 _ _ h.ok.t, kC, h.t]
  generalize qp p.z = z; generalize a.x = x; generalize a.y = y; grind
section
attribute [local irreducible] qb nL pA
theorem qii (p : Pt) (hp : p.Ok) (w : World) :
  zC 116 #[.agg (pA p)] w (.agg (pA (Qy p))) := by
 have hz := qjD
 have hzp := yK
 have Hp := qa hp
 clear hp
 go_enter Tryz.func116, Tryz.ntmps116
 go_upto_region 2 with fail
 generalize hW0 : World.alloc _ _ = W0
 have RP : Hid (qi W0 w.heap.size (pA p) 82) := by rw [← hW0]; exact JO _ _ _ _
 have RZ : Hid (qi W0 (w.heap.size + 1) (pA p0) 82) := by rw [← hW0]; exact Jm _ _ _ _
 have RN : Hid (qi W0 (w.heap.size + 1 + 1) (qb 0) 80) := by rw [← hW0]; exact Jb _ _ _ _
 have BL : Hid (zB w W0) := by rw [← hW0]; show Below _ _ _; go_grown
 clear hW0
 refine zM (S := fun w' => w'.rangeAt (w.heap.size + 1 + 1) 0 (nL 0) ∧ w'.rangeAt (w.heap.size) 0 (nL p.x) ∧ w'.rangeAt (w.heap.size) 4 (nL p.y) ∧ w'.rangeAt (w.heap.size) 8 (nL p.z) ∧ w'.rangeAt (w.heap.size) 12 (nL p.t)) (by kernel_rfl) ⟨Qu RN.o, (Qr RP.o).1, (Qr RP.o).2.1, (Qr RP.o).2.2.1, (Qr RP.o).2.2.2⟩ (fun hHeld => ?_)
 have KV1 : Hid (zB W0 W0.drew) := (zJ _ _).drew
 obtain ⟨V1, hV1⟩ := zy W0.drew
 rw [← hV1] at hHeld KV1 ⊢
 clear hV1
 refine zT 0 ⟨some 4, .load 80 (.tmp 3), 80, "point.go:85", #[], none⟩ (.agg (qb 0)) (jA (by rfl) _ rfl (w.heap.size + 1 + 1) 0 0 rfl (fun w h => h.1)) ?_
 simp only [qd]
 refine zU 1 ⟨some 5, .fieldAddr 82 (.tmp 1) 0, 0, "point.go:85", #[], none⟩ (zp w.heap.size 0) ?_
 simp only [qd]
 refine zT 2 ⟨some 6, .load 80 (.tmp 5), 80, "point.go:85", #[ql 1], none⟩ (.agg (qb p.x)) (jA (by rfl) _ rfl (w.heap.size) 0 p.x rfl (fun w h => h.2.1)) ?_
 simp only [qd]
 refine zU 4 ⟨some 8, .fieldAddr 82 (.tmp 1) 1, 0, "point.go:85", #[], none⟩ (zp w.heap.size 4) ?_
 simp only [qd]
 refine zT 5 ⟨some 9, .load 80 (.tmp 8), 80, "point.go:85", #[ql 4], none⟩ (.agg (qb p.y)) (jA (by rfl) _ rfl (w.heap.size) 4 p.y rfl (fun w h => h.2.2.1)) ?_
 simp only [qd]
 refine zU 6 ⟨some 10, .fieldAddr 82 (.tmp 1) 2, 0, "point.go:85", #[], none⟩ (zp w.heap.size 8) ?_
 simp only [qd]
 refine zT 7 ⟨some 11, .load 80 (.tmp 10), 80, "point.go:85", #[ql 6], none⟩ (.agg (qb p.z)) (jA (by rfl) _ rfl (w.heap.size) 8 p.z rfl (fun w h => h.2.2.2.1)) ?_
 simp only [qd]
 refine zT 8 ⟨some 12, .load 80 (.tmp 3), 80, "point.go:85", #[], none⟩ (.agg (qb 0)) (jA (by rfl) _ rfl (w.heap.size + 1 + 1) 0 0 rfl (fun w h => h.1)) ?_
 simp only [qd]
 refine zU 9 ⟨some 13, .fieldAddr 82 (.tmp 1) 3, 0, "point.go:85", #[], none⟩ (zp w.heap.size 12) ?_
 simp only [qd]
 refine zT 10 ⟨some 14, .load 80 (.tmp 13), 80, "point.go:85", #[ql 9], none⟩ (.agg (qb p.t)) (jA (by rfl) _ rfl (w.heap.size) 12 p.t rfl (fun w h => h.2.2.2.2)) ?_
 simp only [qd]
 refine zW [3] ?_
 refine zK ⟨some 7, .call ⟨.value (.func 119), #[.tmp 4, .tmp 6], #[80, 80]⟩, 80, "point.go:85", #[ql 0, ql 2], none⟩ (fun K hK => ?_) ?_
 ·
  refine zE (yw _ _ rfl (.agg (qb 0)) (.agg (qb p.x)) rfl rfl V1) (JD 0 p.x j3 Hp.o.x V1) fun V2 HBx => ?_
  have KV2 := qq KV1 HBx
  clear HBx
  refine hK.o _ _ (⟨qS RN KV2, qv RP KV2, qw RP KV2, qW RP KV2, QI RP KV2⟩) fun hHeld => ?_
  try simp only [qd]
  refine zW [11] ?_
  refine zK ⟨some 15, .call ⟨.value (.func 119), #[.tmp 12, .tmp 14], #[80, 80]⟩, 80, "point.go:85", #[ql 8, ql 10, qT 3], none⟩ (fun K hK => ?_) ?_
  ·
   refine zE (yw _ _ rfl (.agg (qb 0)) (.agg (qb p.t)) rfl rfl V2) (JD 0 p.t j3 Hp.o.t V2) fun V3 HBx => ?_
   have KV3 := qq KV2 HBx
   clear HBx
   refine hK.o _ _ (⟨qS RN KV3, qv RP KV3, qw RP KV3, qW RP KV3, QI RP KV3⟩) fun hHeld => ?_
   try simp only [qd]
   refine zT 12 ⟨some 16, .build 82 #[(0, .tmp 7), (1, .tmp 9), (2, .tmp 11), (3, .tmp 15)], 82, "point.go:85", #[ql 3, ql 5, ql 7, ql 11], none⟩ (.agg (pA (Qy p))) (Yq (by rfl) _ _ rfl _ _ (by kernel_rfl) (qpj (sP 0 p.x) p.y p.z (sP 0 p.t))) ?_
   simp only [qd]
   refine zW [13] ?_
   refine zK ⟨none, .store 82 (.tmp 2) (.tmp 16), 0, "point.go:85", #[ql 12, qT 11, qj 0, qj 1, qj 2, qj 3, qj 4, qj 5, qj 6, qj 7, qj 8, qj 9, qj 10, qj 11, qj 12], none⟩ (fun K hK => ?_) ?_
   ·
    refine zQ 82 (.tmp 2) (.tmp 16) (w.heap.size + 1) (pA (Qy p)) (qs RZ.o KV3.o (qh RZ.o)) (jO _) (ZK _ _) (QJ _) ?_
    rw [qH]
    refine hK.o _ _ (⟨qF (qS RN KV3) (by omega), qF (qv RP KV3) (by omega), qF (qw RP KV3) (by omega), qF (qW RP KV3) (by omega), qF (QI RP KV3) (by omega)⟩) fun hHeld => ?_
    try simp only [qd]
    refine zi (by kernel_rfl) ?_ _
    go_wp2_with fail
    have RZ9 := qa (qs RZ.o KV3.o (qh RZ.o))
    have BL9 := qa (BL.o.trans (KV3.o.mono BL.o.size))
    refine zh (v := .agg (pA (Qy p))) (results_cell_row Tryz.results116 _ _ (w.heap.size + 1) 82 _ (0, 0) _ (by rfl) (zd _ _ _ _ _ _ RZ9.o) Tryz.underlying82 rfl (jO _)) rfl ⟨rfl, ze BL9.o (by omega) _⟩
   exact zu
  exact zu
 exact zu
end
end Go.Proofs.YtccgfabojbjmjaaGreatDoor
