import Derived.Test.YtccgfabojbjmjaaGreatDoorLo39
set_option maxRecDepth 100000
set_option maxHeartbeats 8000000
namespace Go.Proofs.YtccgfabojbjmjaaGreatDoor
open Go.RowKit
open Go.RowKit
abbrev yaa : Oper := ⟨some 14, .call ⟨.value (.func 68), #[.tmp 11, .tmp 13], #[95, 9]⟩, 145, "point.go:67", #[ql 0, ql 2, qT 2], none⟩
abbrev yab : Oper := ⟨some 13, .call ⟨.value (.func 69), #[.tmp 12, .const (.bool false)], #[95, 4]⟩, 9, "point.go:67", #[ql 1], none⟩
abbrev qeZ : Oper := ⟨some 10, .move (.tmp 14), 145, "point.go:67", #[ql 3], none⟩
abbrev qfb : Oper := ⟨some 15, .extract (.tmp 10) 0, 98, "point.go:67", #[ql 4], none⟩
abbrev qeB : Oper := ⟨some 16, .extract (.tmp 10) 1, 4, "point.go:67", #[ql 4, ⟨8, .gcOnly .lateStores⟩], none⟩
abbrev qeU : Oper := ⟨some 4, .alloc 98, 0, "point.go:67", #[], none⟩
abbrev qfq : Oper := ⟨none, .store 98 (.tmp 4) (.tmp 15), 0, "point.go:67", #[ql 7, ql 5, qT 3, qj 0, qj 1, qj 2, qj 3, qj 4, qj 5, ⟨6, .textOnly .lateStores⟩, qj 7], none⟩
abbrev qeE : Oper := ⟨some 5, .assign (.tmp 16), 4, "point.go:67", #[ql 6, qT 8, qj 0, qj 1, qj 2, qj 3, qj 4, qj 5, qj 6, qj 7, qj 8], none⟩
theorem qf5 {a : Act} {o : Oper} (x y : Operand) (ho : o.op = .call { callee := .value (.func 69), args := #[x, y], argTypes := #[95, 4] }) (v1 v2 : Value) (hx : a.eval x = v1) (hy : a.eval y = v2) (w : World) :
  (execOp a.eval o).run Tryz.prog w = .ok (.enter 69 #[v1, v2]) w := by
 unfold execOp
 simp only [ho]
 subst hx hy
 go_simp
theorem qg6 {a : Act} {o : Oper} (x y : Operand) (ho : o.op = .call { callee := .value (.func 68), args := #[x, y], argTypes := #[95, 9] }) (v1 v2 : Value) (hx : a.eval x = v1) (hy : a.eval y = v2) (w : World) :
  (execOp a.eval o).run Tryz.prog w = .ok (.enter 68 #[v1, v2]) w := by
 unfold execOp
 simp only [ho]
 subst hx hy
 go_simp
theorem qgj {a : Act} {o : Oper} (x : Operand) (ho : o.op = .call { callee := .value (.func 35), args := #[x], argTypes := #[95] }) (v1 : Value) (hx : a.eval x = v1) (w : World) :
  (execOp a.eval o).run Tryz.prog w = .ok (.enter 35 #[v1]) w := by
 unfold execOp
 simp only [ho]
 subst hx
 go_simp
def Yh : ByteArray := jk (qI (Qp (mP 4 (jm 5)) false) 32)
theorem qte (y : Nat) (hy : y < P) (T : ByteArray) (hT : T = jk (qI (Qp y false) 32)) (w : World) :
  zC 69 #[.agg (fA y), .bool false] w (.string T) := by rw [hT]; exact qsK y false hy w
theorem quN (d : Nat) (hd : d < P) (T : ByteArray) (q : Q3) (b : Bool) (hq : q = Qv d T) (hb : b = j6 d T) (w : World) :
  zC 68 #[.agg (fA d), .string T] w (.tuple #[.agg (qA q), .bool b]) := by rw [hq, hb]; exact qhO d T hd w
theorem k4 : 4 < P := by decide
theorem k5 : 5 < P := by decide
section
attribute [local irreducible] fA fL qA qL sA JZ ZC j6 Qv YP jd
theorem qlo (d : Nat) (hd : d = ZC) (bqD : Q3) (hq : bqD = Qv ZC Yh) (w : World) :
  zC 35 #[.agg (fA d)] w (.agg (qA bqD)) := by
 have hz := JP
 have hzq := qjZ
 have Ed := qa hd
 have Hd : Hid (d < P) := by rw [Ed.o]; exact qkJ
 have EQ0 := qa hq
 clear hd hq
 go_enter Tryz.func35, Tryz.ntmps35
 go_upto_region 1 with fail
 generalize hW0 : World.alloc _ _ = W0
 have RD : Hid (qi W0 w.heap.size (fA d) 95) := by rw [← hW0]; exact heap_alloc2_old _ _ _
 have RZ : Hid (qi W0 (w.heap.size + 1) (qA q0) 98) := by rw [← hW0]; exact Zd _ _ _
 have BL : Hid (zB w W0) := by rw [← hW0]; show Below _ _ _; go_grown
 clear hW0
 go_wp2_with fail
 refine (kA 4 (by decide) _).mono ?_
 rintro e W1 ⟨rfl, hB⟩
 have RD := qa (qk RD.o hB)
 have RZ := qa (qk RZ.o hB)
 have BL := qq BL hB
 clear hB
 obtain ⟨x4, E4⟩ := zx 4
 have H4 : Hid (x4 < P) := by rw [E4.o]; exact k4
 rw [← E4.o]
 go_wp2_with fail
 refine (kA 5 (by decide) _).mono ?_
 rintro e W2 ⟨rfl, hB⟩
 have RD := qa (qk RD.o hB)
 have RZ := qa (qk RZ.o hB)
 have BL := qq BL hB
 clear hB
 go_wp2_with fail
 refine (qck 5 k5 _).mono ?_
 rintro e W3 ⟨rfl, hB⟩
 have RD := qa (qk RD.o hB)
 have RZ := qa (qk RZ.o hB)
 have BL := qq BL hB
 clear hB
 obtain ⟨i5, E5⟩ := zx (jm 5)
 have H5 : Hid (i5 < P) := by rw [E5.o]; exact qbD _
 rw [← E5.o]
 go_wp2_with fail
 refine (Qb x4 i5 H4.o H5.o _).mono ?_
 rintro e W4 ⟨rfl, hB⟩
 have RD := qa (qk RD.o hB)
 have RZ := qa (qk RZ.o hB)
 have BL := qq BL hB
 clear hB
 obtain ⟨y, Ey⟩ := zx (mP x4 i5)
 have Hy : Hid (y < P) := by rw [Ey.o]; exact qK _ _
 rw [← Ey.o]
 go_upto_region 2 with (first | (refine qB 95 (.tmp 3) (.tmp 9) W4.heap.size (fA y) (za _ _) (qO _) (jo _ _) (jn _) ?_))
 try rw [qH]
 obtain ⟨g3, hg3⟩ := zy W4.heap.size
 generalize hW5 : World.setRow _ _ _ = W5
 have K5 : Hid (zB W4 W5) := by rw [← hW5]; exact ze ((zJ _ _).alloc (zm _) _) (zm _) _
 have RY : Hid (qi W5 g3 (fA y) 95) := by rw [← hW5, hg3]; exact zd _ _ _ _ _ _ (za _ _)
 have RD := qa (qk RD.o K5.o)
 have RZ := qa (qk RZ.o K5.o)
 have BL : Hid (zB w W5) := BL.o.trans (K5.o.mono BL.o.size)
 rw [← hg3]
 clear hW5 hg3 K5
 obtain ⟨T, ET⟩ := zx (jk (qI (Qp y false) 32))
 have ETb : Hid (T = Yh) := by show _ = _; rw [ET.o, Ey.o, E4.o, E5.o]; rfl
 have EQ : Hid (bqD = Qv d T) := by show _ = _; rw [EQ0.o, Ed.o, ETb.o]
 obtain ⟨b0, EB⟩ := zx (j6 d T)
 have lD := qh RD.o
 have lY := qh RY.o
 go_cut [4] from 10 to 16 (fun s' wx => ∃ g, s' = zp g 0 ∧ Hid (qi wx g (qA bqD) 98) ∧ Hid (zB W5 wx))
 case first =>
  refine zM (S := fun w' => w'.rangeAt w.heap.size 0 (fL d) ∧ w'.rangeAt g3 0 (fL y)) (by kernel_rfl) ⟨QE RD.o, QE RY.o⟩ (fun hHeld => ?_)
  have KV1 : Hid (zB W5 W5.drew) := (zJ _ _).drew
  obtain ⟨V1, hV1⟩ := zy W5.drew
  rw [← hV1] at hHeld KV1 ⊢
  clear hV1
  refine zT 0 ⟨some 11, .load 95 (.tmp 1), 95, "point.go:67", #[], none⟩ (.agg (fA d)) (jX (by rfl) _ rfl w.heap.size 0 d rfl (fun w h => h.1)) ?_
  simp only [qd]
  refine zT 1 ⟨some 12, .load 95 (.tmp 3), 95, "point.go:67", #[], none⟩ (.agg (fA y)) (jX (by rfl) _ rfl g3 0 y rfl (fun w h => h.2)) ?_
  simp only [qd]
  refine zW [2, 7] ?_
  refine zK yab (fun K hK => ?_) ?_
  ·
   refine zE (qf5 _ _ rfl (.agg (fA y)) (.bool false) rfl rfl V1) (qte y Hy.o T ET.o V1) fun V2 HBx => ?_
   have KV2 := qq KV1 HBx
   clear HBx
   refine hK.o _ _ (⟨q8 (QE RD.o) KV2.o lD, q8 (QE RY.o) KV2.o lY⟩) fun hHeld => ?_
   try simp only [qd]
   refine zW [3, 7] ?_
   refine zK yaa (fun K hK => ?_) ?_
   ·
    refine zE (qg6 _ _ rfl (.agg (fA d)) (.string T) rfl rfl V2) (quN d Hd.o T bqD b0 EQ.o EB.o V2) fun V3 HBx => ?_
    have KV3 := qq KV2 HBx
    clear HBx
    refine hK.o _ _ (⟨q8 (QE RD.o) KV3.o lD, q8 (QE RY.o) KV3.o lY⟩) fun hHeld => ?_
    try simp only [qd]
    refine zU 4 qeZ (.tuple #[.agg (qA bqD), .bool b0]) ?_
    simp only [qd]
    refine zU 5 qfb (.agg (qA bqD)) ?_
    simp only [qd]
    refine zU 6 qeB (.bool b0) ?_
    simp only [qd]
    refine zR 7 qeU fun K hK => ?_
    refine zA (kT rfl V3) ?_
    obtain ⟨gg4, hgg4⟩ := zy V3.heap.size
    have ZN : Hid ((V3.alloc (.cells (qA q0) 98)).heap[gg4]? = some (.cells (qA q0) 98)) := by rw [hgg4]; exact za _ _
    have KV4 : Hid (zB W5 (V3.alloc (.cells (qA q0) 98))) := KV3.o.alloc KV3.o.size _
    have GG : Hid (W5.heap.size ≤ gg4) := by rw [hgg4]; exact KV3.o.size
    rw [← hgg4]
    obtain ⟨V4, hV4⟩ := zy (V3.alloc (.cells (qA q0) 98))
    rw [← hV4] at ZN KV4 ⊢
    clear hV4 hgg4
    refine hK.o _ _ (⟨q8 (QE RD.o) KV4.o lD, q8 (QE RY.o) KV4.o lY⟩) fun hHeld => ?_
    try simp only [qd]
    refine zR 8 qfq fun K hK => ?_
    refine zQ 98 (.tmp 4) (.tmp 15) (gg4) (qA bqD) ZN.o (jE _) (QN _ _) (QO _) ?_
    rw [qH]
    refine hK.o _ _ (⟨qF (q8 (QE RD.o) KV4.o lD) (zn (zl lD GG.o)), qF (q8 (QE RY.o) KV4.o lY) (zn (zl lY GG.o))⟩) fun hHeld => ?_
    try simp only [qd]
    refine zU 9 qeE (.bool b0) ?_
    simp only [qd]
    refine zi (by kernel_rfl) ?_ _
    go_wp2_with fail
    go_meet
    case rel => exact ⟨gg4, rfl, qa (zd _ _ _ _ _ _ ZN.o), qa (ze KV4.o GG.o _)⟩
   refine zK qeU (fun K hK => ?_) ?_
   ·
    refine zA (kT rfl V2) ?_
    obtain ⟨gg6, hgg6⟩ := zy V2.heap.size
    have ZN : Hid ((V2.alloc (.cells (qA q0) 98)).heap[gg6]? = some (.cells (qA q0) 98)) := by rw [hgg6]; exact za _ _
    have KV6 : Hid (zB W5 (V2.alloc (.cells (qA q0) 98))) := KV2.o.alloc KV2.o.size _
    have GG : Hid (W5.heap.size ≤ gg6) := by rw [hgg6]; exact KV2.o.size
    rw [← hgg6]
    obtain ⟨V6, hV6⟩ := zy (V2.alloc (.cells (qA q0) 98))
    rw [← hV6] at ZN KV6 ⊢
    clear hV6 hgg6
    refine hK.o _ _ (⟨q8 (QE RD.o) KV6.o lD, q8 (QE RY.o) KV6.o lY⟩) fun hHeld => ?_
    try simp only [qd]
    refine zR 3 yaa fun K hK => ?_
    refine zE (qg6 _ _ rfl (.agg (fA d)) (.string T) rfl rfl V6) (quN d Hd.o T bqD b0 EQ.o EB.o V6) fun V7 HBx => ?_
    have KV7 := qq KV6 HBx
    have ZN : Hid (V7.heap[gg6]? = _) := qk ZN.o HBx
    clear HBx
    refine hK.o _ _ (⟨q8 (QE RD.o) KV7.o lD, q8 (QE RY.o) KV7.o lY⟩) fun hHeld => ?_
    try simp only [qd]
    refine zU 4 qeZ (.tuple #[.agg (qA bqD), .bool b0]) ?_
    simp only [qd]
    refine zU 5 qfb (.agg (qA bqD)) ?_
    simp only [qd]
    refine zU 6 qeB (.bool b0) ?_
    simp only [qd]
    refine zR 8 qfq fun K hK => ?_
    refine zQ 98 (.tmp 4) (.tmp 15) (gg6) (qA bqD) ZN.o (jE _) (QN _ _) (QO _) ?_
    rw [qH]
    refine hK.o _ _ (⟨qF (q8 (QE RD.o) KV7.o lD) (zn (zl lD GG.o)), qF (q8 (QE RY.o) KV7.o lY) (zn (zl lY GG.o))⟩) fun hHeld => ?_
    try simp only [qd]
    refine zU 9 qeE (.bool b0) ?_
    simp only [qd]
    refine zi (by kernel_rfl) ?_ _
    go_wp2_with fail
    go_meet
    case rel => exact ⟨gg6, rfl, qa (zd _ _ _ _ _ _ ZN.o), qa (ze KV7.o GG.o _)⟩
   exact zu
  refine zK qeU (fun K hK => ?_) ?_
  ·
   refine zA (kT rfl V1) ?_
   obtain ⟨gg9, hgg9⟩ := zy V1.heap.size
   have ZN : Hid ((V1.alloc (.cells (qA q0) 98)).heap[gg9]? = some (.cells (qA q0) 98)) := by rw [hgg9]; exact za _ _
   have KV9 : Hid (zB W5 (V1.alloc (.cells (qA q0) 98))) := KV1.o.alloc KV1.o.size _
   have GG : Hid (W5.heap.size ≤ gg9) := by rw [hgg9]; exact KV1.o.size
   rw [← hgg9]
   obtain ⟨V9, hV9⟩ := zy (V1.alloc (.cells (qA q0) 98))
   rw [← hV9] at ZN KV9 ⊢
   clear hV9 hgg9
   refine hK.o _ _ (⟨q8 (QE RD.o) KV9.o lD, q8 (QE RY.o) KV9.o lY⟩) fun hHeld => ?_
   try simp only [qd]
   refine zR 2 yab fun K hK => ?_
   refine zE (qf5 _ _ rfl (.agg (fA y)) (.bool false) rfl rfl V9) (qte y Hy.o T ET.o V9) fun V10 HBx => ?_
   have KV10 := qq KV9 HBx
   have ZN : Hid (V10.heap[gg9]? = _) := qk ZN.o HBx
   clear HBx
   refine hK.o _ _ (⟨q8 (QE RD.o) KV10.o lD, q8 (QE RY.o) KV10.o lY⟩) fun hHeld => ?_
   try simp only [qd]
   refine zR 3 yaa fun K hK => ?_
   refine zE (qg6 _ _ rfl (.agg (fA d)) (.string T) rfl rfl V10) (quN d Hd.o T bqD b0 EQ.o EB.o V10) fun V11 HBx => ?_
   have KV11 := qq KV10 HBx
   have ZN : Hid (V11.heap[gg9]? = _) := qk ZN.o HBx
   clear HBx
   refine hK.o _ _ (⟨q8 (QE RD.o) KV11.o lD, q8 (QE RY.o) KV11.o lY⟩) fun hHeld => ?_
   try simp only [qd]
   refine zU 4 qeZ (.tuple #[.agg (qA bqD), .bool b0]) ?_
   simp only [qd]
   refine zU 5 qfb (.agg (qA bqD)) ?_
   simp only [qd]
   refine zU 6 qeB (.bool b0) ?_
   simp only [qd]
   refine zR 8 qfq fun K hK => ?_
   refine zQ 98 (.tmp 4) (.tmp 15) (gg9) (qA bqD) ZN.o (jE _) (QN _ _) (QO _) ?_
   rw [qH]
   refine hK.o _ _ (⟨qF (q8 (QE RD.o) KV11.o lD) (zn (zl lD GG.o)), qF (q8 (QE RY.o) KV11.o lY) (zn (zl lY GG.o))⟩) fun hHeld => ?_
   try simp only [qd]
   refine zU 9 qeE (.bool b0) ?_
   simp only [qd]
   refine zi (by kernel_rfl) ?_ _
   go_wp2_with fail
   go_meet
   case rel => exact ⟨gg9, rfl, qa (zd _ _ _ _ _ _ ZN.o), qa (ze KV11.o GG.o _)⟩
  exact zu
 case rest =>
  obtain ⟨g4, rfl, RN, X9⟩ := hcut
  have RZ := qa (qk RZ.o X9.o)
  have BL : Hid (zB w wc) := BL.o.trans (X9.o.mono BL.o.size)
  go_wp2_with (first
   | (refine zL 98 (.tmp 4) g4 (qA bqD) RN.o Tryz.underlying98 (jE _) ?_)
   | (refine qB 98 (.tmp 2) (.tmp 17) (w.heap.size + 1) (qA bqD) RZ.o (jE _) (QN _ _) (QO _) ?_))
  refine zh (v := .agg (qA bqD)) (results_cell_row Tryz.results35 _ _ (w.heap.size + 1) 98 _ (0, 0) _ (by rfl) (zd _ _ _ _ _ _ RZ.o) Tryz.underlying98 rfl (jE _)) rfl ⟨rfl, ze BL.o (by omega) _⟩
end
end Go.Proofs.YtccgfabojbjmjaaGreatDoor
