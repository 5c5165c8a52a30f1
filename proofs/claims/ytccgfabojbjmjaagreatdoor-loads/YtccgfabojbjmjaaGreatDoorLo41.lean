import Derived.Test.YtccgfabojbjmjaaGreatDoorLo40
import Derived.Test.YtccgfabojbjmjaaGreatDoorLo39
set_option maxRecDepth 100000
set_option maxHeartbeats 8000000
namespace Go.Proofs.YtccgfabojbjmjaaGreatDoor
open Go.RowKit
open Go.RowKit
abbrev Y7 : Oper := ⟨some 13, .call ⟨.value (.func 131), #[.tmp 12], #[9]⟩, 39, "image.go:41", #[ql 1], none⟩
abbrev qbt : Oper := ⟨some 23, .convert 9 89 (.tmp 22), 89, "image.go:40", #[ql 11], none⟩
abbrev qbs : Oper := ⟨some 24, .sliceToArrayPointer 102 (.tmp 23), 0, "image.go:40", #[ql 12], none⟩
abbrev qbx : Oper := ⟨some 28, .convert 9 89 (.tmp 27), 89, "image.go:40", #[ql 16], none⟩
abbrev qbh : Oper := ⟨some 29, .sliceToArrayPointer 102 (.tmp 28), 0, "image.go:40", #[ql 17], none⟩
abbrev qby : Oper := ⟨some 30, .load 102 (.tmp 29), 102, "image.go:40", #[ql 18], none⟩
abbrev qbz : Oper := ⟨some 25, .load 102 (.tmp 24), 102, "image.go:40", #[ql 13], none⟩
theorem qdo (l : List UInt8) (h : l.length = 64) : qI (qC l) 64 = l := by
 apply List.ext_getElem
 · rw [jM, h]
 ·
  intro i h1 h2
  have g : ∀ h : i < (qI (qC l) 64).length, (qI (qC l) 64)[i] = Qe (qC l) i := by intro h; simp [qI]
  rw [g]
  apply UInt8.toNat_inj.1
  rw [Ja, qar]
  simp [List.getD, zO h2]
theorem qga (v k : Int) (p sg : ByteArray) (x y : Nat) : Tryz.prog.built 114 [(0, .int .u32 v), (1, .int .i64 k), (2, .string p), (3, .string sg), (4, .agg ((qI x 64).map cv).toArray), (5, .agg ((qI y 64).map cv).toArray)] = some (Qi v k p sg (qI x 64) (qI y 64)) := by kernel_rfl
theorem qng (v k : Int) (p sg : ByteArray) (S D : List UInt8) (hS : S.length = 64) (hD : D.length = 64) (M1 M2 : Array Value) (h1 : M1 = (S.map cv).toArray) (h2 : M2 = (D.map cv).toArray) : Tryz.prog.built 114 [(0, .int .u32 v), (1, .int .i64 k), (2, .string p), (3, .string sg), (4, .agg M1), (5, .agg M2)] = some (Qi v k p sg S D) := by
 have e := qga v k p sg (qC S) (qC D)
 rw [qdo S hS, qdo D hD] at e
 rw [h1, h2]
 exact e
def qvt : List UInt8 := List.replicate 64 0
def jZ : Array Value := Qi 0 0 ByteArray.empty ByteArray.empty qvt qvt
theorem qbG (w : World) : (zeroValue 114).run Tryz.prog w = .ok (.agg jZ) w := by kernel_rfl
theorem qdD : Tryz.prog.built 114 [] = some jZ := by kernel_rfl
theorem ZW : (Tryz.prog.info? 114).map (·.size) = some 132 := by kernel_rfl
theorem qbZ (v k : Int) (p sg : ByteArray) (S D : List UInt8) (hS : S.length = 64) (hD : D.length = 64) : (Qi v k p sg S D).size = 132 := by rw [qfR, hS, hD]
theorem qcg (v k : Int) (p sg : ByteArray) (S D : List UInt8) : (Qi v k p sg S D).all (·.oneCell') = true := by
 refine all_oneCell_toArray ?_
 intro x hx
 unfold Js at hx
 simp only [List.mem_cons, List.mem_append] at hx
 rcases hx with rfl | rfl | rfl | rfl | h | h
 · rfl
 · rfl
 · rfl
 · rfl
 · exact qc5 _ x h
 · exact qc5 _ x h
theorem yT : jZ.size = 132 := by unfold jZ; rw [qfR]; rfl
theorem qcj : jZ.all (·.oneCell') = true := qcg _ _ _ _ _ _
theorem kc {a : Act} {o : Oper} (x : Operand) (ho : o.op = .call { callee := .value (.func 131), args := #[x], argTypes := #[9] }) (v1 : Value) (hx : a.eval x = v1) (w : World) :
  (execOp a.eval o).run Tryz.prog w = .ok (.enter 131 #[v1]) w := by
 unfold execOp
 simp only [ho]
 subst hx
 go_simp
theorem YY (s : ByteArray) (hs : s.size = 4) (n : Nat) (hn : n = QK s 4) (w : World) : zC 131 #[.string s] w (.int .u32 n) := by
 refine (qed s hs w).mono ?_
 rintro e w' ⟨rfl, rfl⟩
 exact ⟨by rw [hn], zJ _ _⟩
noncomputable def QV (s : ByteArray) : Nat := QK (s.extract 8 12) 4
def j8 (s : ByteArray) : Int := C8 ((bytesOf s).getD 16 0)
def ZE (s : ByteArray) : ByteArray := s.extract 192 s.size
def yc (s : ByteArray) : ByteArray := s.extract 0 128
def Jz (s : ByteArray) : List UInt8 := bytesOf (s.extract 128 192)
def Jc (s : ByteArray) : List UInt8 := bytesOf (s.extract 64 128)
noncomputable def Yo (s : ByteArray) : Array Value := Qi (QV s) (j8 s) (ZE s) (yc s) (Jz s) (Jc s)
abbrev jU (w : World) (s A P C G D : ByteArray) (z : Int) (t13 t23 t24 t25 t28 t29 t30 : Value) : Act := { tmps := #[.string s, undef, zp w.heap.size 0, .nilIface, .nilIface, .string s, .nilIface, .nilIface, .bool false, undef, undef, .string s, .string A, t13, .string s, .int .u8 z, .int .i64 z, .string s, .string P, .string s, .string C, .string s, .string G, t23, t24, t25, .string s, .string D, t28, t29, t30, undef], defers := [] }
section
attribute [local irreducible] Qi Js jZ qvt
theorem qjS (s : ByteArray) (hm : s.size ≤ maxLen) (E : Value) (hE : QW s = .iface 173 E) (w : World) :
  zC 84 #[.string s] w (.tuple #[.agg jZ, .iface 173 E]) := by
 have hz := qbG
 have HE := qa hE
 have Hm := qa hm
 clear hE hm
 go_enter Tryz.func84, Tryz.ntmps84
 go_wp2_with fail
 refine (qcm s Hm.o _).mono ?_
 rintro e W1 ⟨rfl, hB⟩
 rw [HE.o]
 have B1 : Hid (zB w W1) := ((zJ _ _).alloc (zm _) _).trans (hB.mono (by simp))
 have R1 : Hid (qi W1 w.heap.size jZ 114) := qk (za _ _) hB
 clear hB
 have hb0 := qdD
 go_wp2_with (first
  | (refine qac (by rfl) 114 _ (by rfl) jZ (by exact hb0) ?_)
  | (refine qB 114 (.tmp 2) (.tmp 9) w.heap.size jZ R1.o (by rw [ZW, yT]) rfl qcj ?_))
 refine zh (v := .tuple #[.agg jZ, .iface 173 E]) (jJ Tryz.results84 _ _ (w.heap.size) 114 _ (0, 0) _ (by rfl) (zd _ _ _ _ _ _ R1.o) Tryz.underlying114 rfl (by rw [ZW, yT])) rfl ⟨rfl, ze B1.o (zm _) _⟩
theorem qhi (s : ByteArray) (hm : s.size ≤ maxLen) (hE : QW s = .nilIface) (h192 : 192 ≤ s.size) (w : World) :
  zC 84 #[.string s] w (.tuple #[.agg (Yo s), .nilIface]) := by
 have hz := qbG
 have HE := qa hE
 have Hm := qa hm
 have H192 := qa h192
 clear hE hm
 have h12 : (12 : Int) ≤ (s.size : Int) := by omega
 have h16 : (16 : Int) < (s.size : Int) := by omega
 have h64 : (64 : Int) ≤ (s.size : Int) := by omega
 have h128 : (128 : Int) ≤ (s.size : Int) := by omega
 have h192i : (192 : Int) ≤ (s.size : Int) := by omega
 obtain ⟨A, EA⟩ := zx (s.extract 8 12)
 have hxA : s.extract 8 12 = A := EA.o.symm
 have A4 : Hid (A.size = 4) := by show _ = _; rw [EA.o, QS _ _ _ (by omega)]
 obtain ⟨n, En⟩ := zx (QK A 4)
 obtain ⟨P, EP⟩ := zx (s.extract 192 s.size)
 have hxP : s.extract 192 s.size = P := EP.o.symm
 obtain ⟨C, EC⟩ := zx (s.extract 0 128)
 have hxC : s.extract 0 128 = C := EC.o.symm
 obtain ⟨G, EG⟩ := zx (s.extract 128 192)
 have hxG : s.extract 128 192 = G := EG.o.symm
 have G64 : Hid (G.size = 64) := by show _ = _; rw [EG.o, QS _ _ _ (by omega)]
 obtain ⟨D, ED⟩ := zx (s.extract 64 128)
 have hxD : s.extract 64 128 = D := ED.o.symm
 have D64 : Hid (D.size = 64) := by show _ = _; rw [ED.o, QS _ _ _ (by omega)]
 obtain ⟨z, Ez⟩ := zx (C8 ((bytesOf s).getD 16 0))
 have hix : ∀ w, (Instr.index 9 (.string s) (.int .i64 16)).run Tryz.prog w = .ok (.int .u8 z) w := by rw [Ez.o]; exact Jw s 16 (by omega)
 have hzw : IntKind.i64.wrap z = z := by
  have h1 := J5 ((bytesOf s).getD 16 0)
  have h2 := yt ((bytesOf s).getD 16 0)
  rw [← Ez.o] at h1 h2
  rw [zq]; omega
 have lG : Hid (((bytesOf G).map cv).length = 64) := by show _ = _; rw [zv, jY, G64.o]
 have lD : Hid (((bytesOf D).map cv).length = 64) := by show _ = _; rw [zv, jY, D64.o]
 have lG' : Hid ((bytesOf G).length = 64) := by show _ = _; rw [jY, G64.o]
 have lD' : Hid ((bytesOf D).length = 64) := by show _ = _; rw [jY, D64.o]
 obtain ⟨M1, EM1⟩ := zx (((bytesOf G).map cv).toArray)
 obtain ⟨M2, EM2⟩ := zx (((bytesOf D).map cv).toArray)
 obtain ⟨I, EI⟩ := zx (Qi n z P C (bytesOf G) (bytesOf D))
 have HIs : Hid (I.size = 132) := by show _ = _; rw [EI.o]; exact qbZ _ _ _ _ _ _ lG'.o lD'.o
 have HIa : Hid (I.all (·.oneCell') = true) := by show _ = _; rw [EI.o]; exact qcg _ _ _ _ _ _
 have HIb : Hid (Tryz.prog.built 114 [(0, .int .u32 n), (1, .int .i64 z), (2, .string P), (3, .string C), (4, .agg M1), (5, .agg M2)] = some I) := by show _ = _; rw [EI.o]; exact qng _ _ _ _ _ _ lG'.o lD'.o _ _ EM1.o EM2.o
 have EIR : Hid (I = Yo s) := by show _ = _; rw [EI.o, En.o, Ez.o, EP.o, EC.o, EG.o, ED.o, EA.o]; rfl
 have ha64 := qul
 clear h192
 go_enter Tryz.func84, Tryz.ntmps84
 go_wp2_with fail
 refine (qcm s Hm.o _).mono ?_
 rintro e W1 ⟨rfl, hB⟩
 rw [HE.o]
 have B1 : Hid (zB w W1) := ((zJ _ _).alloc (zm _) _).trans (hB.mono (by simp))
 have R1 : Hid (qi W1 w.heap.size jZ 114) := qk (za _ _) hB
 clear hB
 go_upto_region 4 with fail
 refine zM (S := fun _ => True) (by kernel_rfl) trivial (fun hHeld => ?_)
 have KV1 : Hid (zB W1 W1.drew) := (zJ _ _).drew
 obtain ⟨V1, hV1⟩ := zy W1.drew
 rw [← hV1] at KV1 ⊢
 clear hV1
 refine zU 0 ⟨some 11, .move (.tmp 0), 9, "image.go:40", #[], none⟩ (.string s) ?_
 simp only [qd]
 refine zU 1 ⟨some 12, .slice 9 (.tmp 11) (some (.const (.int .i64 8))) (some (.const (.int .i64 12))) none, 9, "image.go:40", #[ql 0], none⟩ (.string A) ?_
 simp only [qd]
 refine zU 3 ⟨some 14, .move (.tmp 0), 9, "image.go:40", #[], none⟩ (.string s) ?_
 simp only [qd]
 refine zU 4 ⟨some 15, .index 9 (.tmp 14) (.const (.int .i64 16)), 5, "image.go:40", #[ql 3], none⟩ (.int .u8 z) ?_
 simp only [qd]
 refine zU 5 ⟨some 16, .convert 5 3 (.tmp 15), 3, "image.go:40", #[ql 4], none⟩ (.int .i64 z) ?_
 simp only [qd]
 refine zU 6 ⟨some 17, .move (.tmp 0), 9, "image.go:40", #[], none⟩ (.string s) ?_
 simp only [qd]
 refine zU 7 ⟨some 18, .slice 9 (.tmp 17) (some (.const (.int .i64 192))) none none, 9, "image.go:40", #[ql 6], none⟩ (.string P) ?_
 simp only [qd]
 refine zU 8 ⟨some 19, .move (.tmp 0), 9, "image.go:40", #[], none⟩ (.string s) ?_
 simp only [qd]
 refine zU 9 ⟨some 20, .slice 9 (.tmp 19) none (some (.const (.int .i64 128))) none, 9, "image.go:40", #[ql 8], none⟩ (.string C) ?_
 simp only [qd]
 refine zU 10 ⟨some 21, .move (.tmp 0), 9, "image.go:40", #[], none⟩ (.string s) ?_
 simp only [qd]
 refine zU 11 ⟨some 22, .slice 9 (.tmp 21) (some (.const (.int .i64 128))) (some (.const (.int .i64 192))) none, 9, "image.go:40", #[ql 10], none⟩ (.string G) ?_
 simp only [qd]
 refine zU 15 ⟨some 26, .move (.tmp 0), 9, "image.go:40", #[], none⟩ (.string s) ?_
 simp only [qd]
 refine zU 16 ⟨some 27, .slice 9 (.tmp 26) (some (.const (.int .i64 64))) (some (.const (.int .i64 128))) none, 9, "image.go:40", #[ql 15], none⟩ (.string D) ?_
 simp only [qd]
 refine qb1 (fun s => match s with | 0 => #[true, true, false, true, true, true, true, true, true, true, true, true, false, false, false, true, true, false, false, false, false, false, false] | 1 => #[true, true, false, true, true, true, true, true, true, true, true, true, false, false, false, true, true, true, true, false, false, false, false] | 2 => #[true, true, false, true, true, true, true, true, true, true, true, true, true, true, false, true, true, false, false, false, false, false, false] | 3 => #[true, true, true, true, true, true, true, true, true, true, true, true, false, false, false, true, true, false, false, false, false, false, false] | 4 => #[true, true, false, true, true, true, true, true, true, true, true, true, false, false, false, true, true, true, true, true, false, false, false] | 5 => #[true, true, false, true, true, true, true, true, true, true, true, true, true, true, false, true, true, true, true, false, false, false, false] | 6 => #[true, true, false, true, true, true, true, true, true, true, true, true, true, true, true, true, true, false, false, false, false, false, false] | 7 => #[true, true, true, true, true, true, true, true, true, true, true, true, false, false, false, true, true, true, true, false, false, false, false] | 8 => #[true, true, true, true, true, true, true, true, true, true, true, true, true, true, false, true, true, false, false, false, false, false, false] | 9 => #[true, true, false, true, true, true, true, true, true, true, true, true, true, true, false, true, true, true, true, true, false, false, false] | 10 => #[true, true, false, true, true, true, true, true, true, true, true, true, true, true, true, true, true, true, true, false, false, false, false] | 11 => #[true, true, true, true, true, true, true, true, true, true, true, true, false, false, false, true, true, true, true, true, false, false, false] | 12 => #[true, true, true, true, true, true, true, true, true, true, true, true, true, true, false, true, true, true, true, false, false, false, false] | 13 => #[true, true, true, true, true, true, true, true, true, true, true, true, true, true, true, true, true, false, false, false, false, false, false] | 14 => #[true, true, false, true, true, true, true, true, true, true, true, true, true, true, true, true, true, true, true, true, false, false, false] | 15 => #[true, true, true, true, true, true, true, true, true, true, true, true, true, true, false, true, true, true, true, true, false, false, false] | 16 => #[true, true, true, true, true, true, true, true, true, true, true, true, true, true, true, true, true, true, true, false, false, false, false] | 17 => #[true, true, true, true, true, true, true, true, true, true, true, true, true, true, true, true, true, true, true, true, false, false, false] | _ => #[]) (fun s => match s with | 0 => 10 | 1 => 8 | 2 => 8 | 3 => 9 | 4 => 7 | 5 => 6 | 6 => 7 | 7 => 7 | 8 => 7 | 9 => 5 | 10 => 5 | 11 => 6 | 12 => 5 | 13 => 6 | 14 => 4 | 15 => 4 | 16 => 4 | 17 => 3 | _ => 0)
  (fun s' a v => match s' with | 0 => a = jU w s A P C G D z undef undef undef undef undef undef undef ∧ Hid (zB W1 v) | 1 => ∃ q2 c2 : Nat, a = jU w s A P C G D z undef undef undef undef (.slice (some ⟨q2, 0, none⟩) 64 c2) (zp q2 0) undef ∧ Hid (v.rangeAt q2 0 ((bytesOf D).map cv)) ∧ Hid (q2 < v.heap.size) ∧ Hid (zB W1 v) | 2 => ∃ q1 c1 : Nat, a = jU w s A P C G D z undef (.slice (some ⟨q1, 0, none⟩) 64 c1) (zp q1 0) undef undef undef undef ∧ Hid (v.rangeAt q1 0 ((bytesOf G).map cv)) ∧ Hid (q1 < v.heap.size) ∧ Hid (zB W1 v) | 3 => a = jU w s A P C G D z (.int .u32 (n : Nat)) undef undef undef undef undef undef ∧ Hid (zB W1 v) | 4 => ∃ q2 c2 : Nat, a = jU w s A P C G D z undef undef undef undef (.slice (some ⟨q2, 0, none⟩) 64 c2) (zp q2 0) (.agg M2) ∧ Hid (zB W1 v) | 5 => ∃ q1 c1 : Nat, ∃ q2 c2 : Nat, a = jU w s A P C G D z undef (.slice (some ⟨q1, 0, none⟩) 64 c1) (zp q1 0) undef (.slice (some ⟨q2, 0, none⟩) 64 c2) (zp q2 0) undef ∧ Hid (v.rangeAt q1 0 ((bytesOf G).map cv)) ∧ Hid (q1 < v.heap.size) ∧ Hid (v.rangeAt q2 0 ((bytesOf D).map cv)) ∧ Hid (q2 < v.heap.size) ∧ Hid (zB W1 v) | 6 => ∃ q1 c1 : Nat, a = jU w s A P C G D z undef (.slice (some ⟨q1, 0, none⟩) 64 c1) (zp q1 0) (.agg M1) undef undef undef ∧ Hid (zB W1 v) | 7 => ∃ q2 c2 : Nat, a = jU w s A P C G D z (.int .u32 (n : Nat)) undef undef undef (.slice (some ⟨q2, 0, none⟩) 64 c2) (zp q2 0) undef ∧ Hid (v.rangeAt q2 0 ((bytesOf D).map cv)) ∧ Hid (q2 < v.heap.size) ∧ Hid (zB W1 v) | 8 => ∃ q1 c1 : Nat, a = jU w s A P C G D z (.int .u32 (n : Nat)) (.slice (some ⟨q1, 0, none⟩) 64 c1) (zp q1 0) undef undef undef undef ∧ Hid (v.rangeAt q1 0 ((bytesOf G).map cv)) ∧ Hid (q1 < v.heap.size) ∧ Hid (zB W1 v) | 9 => ∃ q1 c1 : Nat, ∃ q2 c2 : Nat, a = jU w s A P C G D z undef (.slice (some ⟨q1, 0, none⟩) 64 c1) (zp q1 0) undef (.slice (some ⟨q2, 0, none⟩) 64 c2) (zp q2 0) (.agg M2) ∧ Hid (v.rangeAt q1 0 ((bytesOf G).map cv)) ∧ Hid (q1 < v.heap.size) ∧ Hid (zB W1 v) | 10 => ∃ q1 c1 : Nat, ∃ q2 c2 : Nat, a = jU w s A P C G D z undef (.slice (some ⟨q1, 0, none⟩) 64 c1) (zp q1 0) (.agg M1) (.slice (some ⟨q2, 0, none⟩) 64 c2) (zp q2 0) undef ∧ Hid (v.rangeAt q2 0 ((bytesOf D).map cv)) ∧ Hid (q2 < v.heap.size) ∧ Hid (zB W1 v) | 11 => ∃ q2 c2 : Nat, a = jU w s A P C G D z (.int .u32 (n : Nat)) undef undef undef (.slice (some ⟨q2, 0, none⟩) 64 c2) (zp q2 0) (.agg M2) ∧ Hid (zB W1 v) | 12 => ∃ q1 c1 : Nat, ∃ q2 c2 : Nat, a = jU w s A P C G D z (.int .u32 (n : Nat)) (.slice (some ⟨q1, 0, none⟩) 64 c1) (zp q1 0) undef (.slice (some ⟨q2, 0, none⟩) 64 c2) (zp q2 0) undef ∧ Hid (v.rangeAt q1 0 ((bytesOf G).map cv)) ∧ Hid (q1 < v.heap.size) ∧ Hid (v.rangeAt q2 0 ((bytesOf D).map cv)) ∧ Hid (q2 < v.heap.size) ∧ Hid (zB W1 v) | 13 => ∃ q1 c1 : Nat, a = jU w s A P C G D z (.int .u32 (n : Nat)) (.slice (some ⟨q1, 0, none⟩) 64 c1) (zp q1 0) (.agg M1) undef undef undef ∧ Hid (zB W1 v) | 14 => ∃ q1 c1 : Nat, ∃ q2 c2 : Nat, a = jU w s A P C G D z undef (.slice (some ⟨q1, 0, none⟩) 64 c1) (zp q1 0) (.agg M1) (.slice (some ⟨q2, 0, none⟩) 64 c2) (zp q2 0) (.agg M2) ∧ Hid (zB W1 v) | 15 => ∃ q1 c1 : Nat, ∃ q2 c2 : Nat, a = jU w s A P C G D z (.int .u32 (n : Nat)) (.slice (some ⟨q1, 0, none⟩) 64 c1) (zp q1 0) undef (.slice (some ⟨q2, 0, none⟩) 64 c2) (zp q2 0) (.agg M2) ∧ Hid (v.rangeAt q1 0 ((bytesOf G).map cv)) ∧ Hid (q1 < v.heap.size) ∧ Hid (zB W1 v) | 16 => ∃ q1 c1 : Nat, ∃ q2 c2 : Nat, a = jU w s A P C G D z (.int .u32 (n : Nat)) (.slice (some ⟨q1, 0, none⟩) 64 c1) (zp q1 0) (.agg M1) (.slice (some ⟨q2, 0, none⟩) 64 c2) (zp q2 0) undef ∧ Hid (v.rangeAt q2 0 ((bytesOf D).map cv)) ∧ Hid (q2 < v.heap.size) ∧ Hid (zB W1 v) | 17 => ∃ q1 c1 : Nat, ∃ q2 c2 : Nat, a = jU w s A P C G D z (.int .u32 (n : Nat)) (.slice (some ⟨q1, 0, none⟩) 64 c1) (zp q1 0) (.agg M1) (.slice (some ⟨q2, 0, none⟩) 64 c2) (zp q2 0) (.agg M2) ∧ Hid (zB W1 v) | _ => False) 18 ?_ 0 (by decide) _ _ _ _ (by rfl) (by kernel_rfl) ⟨rfl, KV1⟩
 clear hHeld KV1
 intro s' hs ih a v hI
 match s', hs, ih, hI with
 | 0, _, ih, hI =>
  dsimp only [jU] at hI
  obtain ⟨rfl, KV⟩ := hI
  refine zW [2, 12, 17] ?_
  refine zK Y7 (fun K hK => ?_) ?_
  ·
   refine zE (kc _ rfl (.string A) rfl v) (YY A A4.o n En.o v) fun V HBx => ?_
   refine hK.o _ _ trivial (fun hHeld => ?_)
   try simp only [qd]
   exact ih 3 (by decide) (by decide) _ _ _ _ (by rfl) (by kernel_rfl) ⟨rfl, qa (KV.o.trans (HBx.mono KV.o.size))⟩
  refine zK qbt (fun K hK => ?_) ?_
  ·
   obtain ⟨cc, V, hcv, hR, HBx, hSz⟩ := JT 9 89 5 JA Jt Jv G v
   rw [G64.o] at hcv
   refine yl (by rfl) (.slice (some ⟨v.heap.size, 0, none⟩) 64 cc) (yV _ rfl G rfl _ _ _ hcv) ?_
   refine hK.o _ _ trivial (fun hHeld => ?_)
   clear hcv
   try simp only [qd]
   refine zU 13 qbs (zp v.heap.size 0) ?_
   simp only [qd]
   exact ih 2 (by decide) (by decide) _ _ _ _ (by rfl) (by kernel_rfl) ⟨v.heap.size, cc, rfl, qa hR, qa (by show _ < _; rw [hSz]; exact Nat.lt_succ_self _), qa (KV.o.trans (HBx.mono KV.o.size))⟩
  refine zK qbx (fun K hK => ?_) ?_
  ·
   obtain ⟨cc, V, hcv, hR, HBx, hSz⟩ := JT 9 89 5 JA Jt Jv D v
   rw [D64.o] at hcv
   refine yl (by rfl) (.slice (some ⟨v.heap.size, 0, none⟩) 64 cc) (yV _ rfl D rfl _ _ _ hcv) ?_
   refine hK.o _ _ trivial (fun hHeld => ?_)
   clear hcv
   try simp only [qd]
   refine zU 18 qbh (zp v.heap.size 0) ?_
   simp only [qd]
   exact ih 1 (by decide) (by decide) _ _ _ _ (by rfl) (by kernel_rfl) ⟨v.heap.size, cc, rfl, qa hR, qa (by show _ < _; rw [hSz]; exact Nat.lt_succ_self _), qa (KV.o.trans (HBx.mono KV.o.size))⟩
  exact zu
 | 1, _, ih, hI =>
  dsimp only [jU] at hI
  obtain ⟨q2, c2, rfl, H2, L2, KV⟩ := hI
  refine zW [2, 12, 19] ?_
  refine zK Y7 (fun K hK => ?_) ?_
  ·
   refine zE (kc _ rfl (.string A) rfl v) (YY A A4.o n En.o v) fun V HBx => ?_
   refine hK.o _ _ trivial (fun hHeld => ?_)
   try simp only [qd]
   exact ih 7 (by decide) (by decide) _ _ _ _ (by rfl) (by kernel_rfl) ⟨q2, c2, rfl, qa (q8 H2.o HBx L2.o), qa (zl L2.o HBx.size), qa (KV.o.trans (HBx.mono KV.o.size))⟩
  refine zK qbt (fun K hK => ?_) ?_
  ·
   obtain ⟨cc, V, hcv, hR, HBx, hSz⟩ := JT 9 89 5 JA Jt Jv G v
   rw [G64.o] at hcv
   refine yl (by rfl) (.slice (some ⟨v.heap.size, 0, none⟩) 64 cc) (yV _ rfl G rfl _ _ _ hcv) ?_
   refine hK.o _ _ trivial (fun hHeld => ?_)
   clear hcv
   try simp only [qd]
   refine zU 13 qbs (zp v.heap.size 0) ?_
   simp only [qd]
   exact ih 5 (by decide) (by decide) _ _ _ _ (by rfl) (by kernel_rfl) ⟨v.heap.size, cc, q2, c2, rfl, qa hR, qa (by show _ < _; rw [hSz]; exact Nat.lt_succ_self _), qa (q8 H2.o HBx L2.o), qa (zl L2.o HBx.size), qa (KV.o.trans (HBx.mono KV.o.size))⟩
  refine zK qby (fun K hK => ?_) ?_
  ·
   refine yM (by rfl) 102 (.tmp 29) (by rfl) q2 0 (by rfl) ((bytesOf D).map cv) _ H2.o Jh rfl (by rw [lD.o]; exact J7) ?_
   rw [← EM2.o]
   refine hK.o _ _ trivial (fun hHeld => ?_)
   try simp only [qd]
   exact ih 4 (by decide) (by decide) _ _ _ _ (by rfl) (by kernel_rfl) ⟨q2, c2, rfl, KV⟩
  exact zu
 | 2, _, ih, hI =>
  dsimp only [jU] at hI
  obtain ⟨q1, c1, rfl, H1, L1, KV⟩ := hI
  refine zW [2, 14, 17] ?_
  refine zK Y7 (fun K hK => ?_) ?_
  ·
   refine zE (kc _ rfl (.string A) rfl v) (YY A A4.o n En.o v) fun V HBx => ?_
   refine hK.o _ _ trivial (fun hHeld => ?_)
   try simp only [qd]
   exact ih 8 (by decide) (by decide) _ _ _ _ (by rfl) (by kernel_rfl) ⟨q1, c1, rfl, qa (q8 H1.o HBx L1.o), qa (zl L1.o HBx.size), qa (KV.o.trans (HBx.mono KV.o.size))⟩
  refine zK qbz (fun K hK => ?_) ?_
  ·
   refine yM (by rfl) 102 (.tmp 24) (by rfl) q1 0 (by rfl) ((bytesOf G).map cv) _ H1.o Jh rfl (by rw [lG.o]; exact J7) ?_
   rw [← EM1.o]
   refine hK.o _ _ trivial (fun hHeld => ?_)
   try simp only [qd]
   exact ih 6 (by decide) (by decide) _ _ _ _ (by rfl) (by kernel_rfl) ⟨q1, c1, rfl, KV⟩
  refine zK qbx (fun K hK => ?_) ?_
  ·
   obtain ⟨cc, V, hcv, hR, HBx, hSz⟩ := JT 9 89 5 JA Jt Jv D v
   rw [D64.o] at hcv
   refine yl (by rfl) (.slice (some ⟨v.heap.size, 0, none⟩) 64 cc) (yV _ rfl D rfl _ _ _ hcv) ?_
   refine hK.o _ _ trivial (fun hHeld => ?_)
   clear hcv
   try simp only [qd]
   refine zU 18 qbh (zp v.heap.size 0) ?_
   simp only [qd]
   exact ih 5 (by decide) (by decide) _ _ _ _ (by rfl) (by kernel_rfl) ⟨q1, c1, v.heap.size, cc, rfl, qa (q8 H1.o HBx L1.o), qa (zl L1.o HBx.size), qa hR, qa (by show _ < _; rw [hSz]; exact Nat.lt_succ_self _), qa (KV.o.trans (HBx.mono KV.o.size))⟩
  exact zu
 | 3, _, ih, hI =>
  dsimp only [jU] at hI
  obtain ⟨rfl, KV⟩ := hI
  refine zW [12, 17] ?_
  refine zK qbt (fun K hK => ?_) ?_
  ·
   obtain ⟨cc, V, hcv, hR, HBx, hSz⟩ := JT 9 89 5 JA Jt Jv G v
   rw [G64.o] at hcv
   refine yl (by rfl) (.slice (some ⟨v.heap.size, 0, none⟩) 64 cc) (yV _ rfl G rfl _ _ _ hcv) ?_
   refine hK.o _ _ trivial (fun hHeld => ?_)
   clear hcv
   try simp only [qd]
   refine zU 13 qbs (zp v.heap.size 0) ?_
   simp only [qd]
   exact ih 8 (by decide) (by decide) _ _ _ _ (by rfl) (by kernel_rfl) ⟨v.heap.size, cc, rfl, qa hR, qa (by show _ < _; rw [hSz]; exact Nat.lt_succ_self _), qa (KV.o.trans (HBx.mono KV.o.size))⟩
  refine zK qbx (fun K hK => ?_) ?_
  ·
   obtain ⟨cc, V, hcv, hR, HBx, hSz⟩ := JT 9 89 5 JA Jt Jv D v
   rw [D64.o] at hcv
   refine yl (by rfl) (.slice (some ⟨v.heap.size, 0, none⟩) 64 cc) (yV _ rfl D rfl _ _ _ hcv) ?_
   refine hK.o _ _ trivial (fun hHeld => ?_)
   clear hcv
   try simp only [qd]
   refine zU 18 qbh (zp v.heap.size 0) ?_
   simp only [qd]
   exact ih 7 (by decide) (by decide) _ _ _ _ (by rfl) (by kernel_rfl) ⟨v.heap.size, cc, rfl, qa hR, qa (by show _ < _; rw [hSz]; exact Nat.lt_succ_self _), qa (KV.o.trans (HBx.mono KV.o.size))⟩
  exact zu
 | 4, _, ih, hI =>
  dsimp only [jU] at hI
  obtain ⟨q2, c2, rfl, KV⟩ := hI
  refine zW [2, 12] ?_
  refine zK Y7 (fun K hK => ?_) ?_
  ·
   refine zE (kc _ rfl (.string A) rfl v) (YY A A4.o n En.o v) fun V HBx => ?_
   refine hK.o _ _ trivial (fun hHeld => ?_)
   try simp only [qd]
   exact ih 11 (by decide) (by decide) _ _ _ _ (by rfl) (by kernel_rfl) ⟨q2, c2, rfl, qa (KV.o.trans (HBx.mono KV.o.size))⟩
  refine zK qbt (fun K hK => ?_) ?_
  ·
   obtain ⟨cc, V, hcv, hR, HBx, hSz⟩ := JT 9 89 5 JA Jt Jv G v
   rw [G64.o] at hcv
   refine yl (by rfl) (.slice (some ⟨v.heap.size, 0, none⟩) 64 cc) (yV _ rfl G rfl _ _ _ hcv) ?_
   refine hK.o _ _ trivial (fun hHeld => ?_)
   clear hcv
   try simp only [qd]
   refine zU 13 qbs (zp v.heap.size 0) ?_
   simp only [qd]
   exact ih 9 (by decide) (by decide) _ _ _ _ (by rfl) (by kernel_rfl) ⟨v.heap.size, cc, q2, c2, rfl, qa hR, qa (by show _ < _; rw [hSz]; exact Nat.lt_succ_self _), qa (KV.o.trans (HBx.mono KV.o.size))⟩
  exact zu
 | 5, _, ih, hI =>
  dsimp only [jU] at hI
  obtain ⟨q1, c1, q2, c2, rfl, H1, L1, H2, L2, KV⟩ := hI
  refine zW [2, 14, 19] ?_
  refine zK Y7 (fun K hK => ?_) ?_
  ·
   refine zE (kc _ rfl (.string A) rfl v) (YY A A4.o n En.o v) fun V HBx => ?_
   refine hK.o _ _ trivial (fun hHeld => ?_)
   try simp only [qd]
   exact ih 12 (by decide) (by decide) _ _ _ _ (by rfl) (by kernel_rfl) ⟨q1, c1, q2, c2, rfl, qa (q8 H1.o HBx L1.o), qa (zl L1.o HBx.size), qa (q8 H2.o HBx L2.o), qa (zl L2.o HBx.size), qa (KV.o.trans (HBx.mono KV.o.size))⟩
  refine zK qbz (fun K hK => ?_) ?_
  ·
   refine yM (by rfl) 102 (.tmp 24) (by rfl) q1 0 (by rfl) ((bytesOf G).map cv) _ H1.o Jh rfl (by rw [lG.o]; exact J7) ?_
   rw [← EM1.o]
   refine hK.o _ _ trivial (fun hHeld => ?_)
   try simp only [qd]
   exact ih 10 (by decide) (by decide) _ _ _ _ (by rfl) (by kernel_rfl) ⟨q1, c1, q2, c2, rfl, H2, L2, KV⟩
  refine zK qby (fun K hK => ?_) ?_
  ·
   refine yM (by rfl) 102 (.tmp 29) (by rfl) q2 0 (by rfl) ((bytesOf D).map cv) _ H2.o Jh rfl (by rw [lD.o]; exact J7) ?_
   rw [← EM2.o]
   refine hK.o _ _ trivial (fun hHeld => ?_)
   try simp only [qd]
   exact ih 9 (by decide) (by decide) _ _ _ _ (by rfl) (by kernel_rfl) ⟨q1, c1, q2, c2, rfl, H1, L1, KV⟩
  exact zu
 | 6, _, ih, hI =>
  dsimp only [jU] at hI
  obtain ⟨q1, c1, rfl, KV⟩ := hI
  refine zW [2, 17] ?_
  refine zK Y7 (fun K hK => ?_) ?_
  ·
   refine zE (kc _ rfl (.string A) rfl v) (YY A A4.o n En.o v) fun V HBx => ?_
   refine hK.o _ _ trivial (fun hHeld => ?_)
   try simp only [qd]
   exact ih 13 (by decide) (by decide) _ _ _ _ (by rfl) (by kernel_rfl) ⟨q1, c1, rfl, qa (KV.o.trans (HBx.mono KV.o.size))⟩
  refine zK qbx (fun K hK => ?_) ?_
  ·
   obtain ⟨cc, V, hcv, hR, HBx, hSz⟩ := JT 9 89 5 JA Jt Jv D v
   rw [D64.o] at hcv
   refine yl (by rfl) (.slice (some ⟨v.heap.size, 0, none⟩) 64 cc) (yV _ rfl D rfl _ _ _ hcv) ?_
   refine hK.o _ _ trivial (fun hHeld => ?_)
   clear hcv
   try simp only [qd]
   refine zU 18 qbh (zp v.heap.size 0) ?_
   simp only [qd]
   exact ih 10 (by decide) (by decide) _ _ _ _ (by rfl) (by kernel_rfl) ⟨q1, c1, v.heap.size, cc, rfl, qa hR, qa (by show _ < _; rw [hSz]; exact Nat.lt_succ_self _), qa (KV.o.trans (HBx.mono KV.o.size))⟩
  exact zu
 | 7, _, ih, hI =>
  dsimp only [jU] at hI
  obtain ⟨q2, c2, rfl, H2, L2, KV⟩ := hI
  refine zW [12, 19] ?_
  refine zK qbt (fun K hK => ?_) ?_
  ·
   obtain ⟨cc, V, hcv, hR, HBx, hSz⟩ := JT 9 89 5 JA Jt Jv G v
   rw [G64.o] at hcv
   refine yl (by rfl) (.slice (some ⟨v.heap.size, 0, none⟩) 64 cc) (yV _ rfl G rfl _ _ _ hcv) ?_
   refine hK.o _ _ trivial (fun hHeld => ?_)
   clear hcv
   try simp only [qd]
   refine zU 13 qbs (zp v.heap.size 0) ?_
   simp only [qd]
   exact ih 12 (by decide) (by decide) _ _ _ _ (by rfl) (by kernel_rfl) ⟨v.heap.size, cc, q2, c2, rfl, qa hR, qa (by show _ < _; rw [hSz]; exact Nat.lt_succ_self _), qa (q8 H2.o HBx L2.o), qa (zl L2.o HBx.size), qa (KV.o.trans (HBx.mono KV.o.size))⟩
  refine zK qby (fun K hK => ?_) ?_
  ·
   refine yM (by rfl) 102 (.tmp 29) (by rfl) q2 0 (by rfl) ((bytesOf D).map cv) _ H2.o Jh rfl (by rw [lD.o]; exact J7) ?_
   rw [← EM2.o]
   refine hK.o _ _ trivial (fun hHeld => ?_)
   try simp only [qd]
   exact ih 11 (by decide) (by decide) _ _ _ _ (by rfl) (by kernel_rfl) ⟨q2, c2, rfl, KV⟩
  exact zu
 | 8, _, ih, hI =>
  dsimp only [jU] at hI
  obtain ⟨q1, c1, rfl, H1, L1, KV⟩ := hI
  refine zW [14, 17] ?_
  refine zK qbz (fun K hK => ?_) ?_
  ·
   refine yM (by rfl) 102 (.tmp 24) (by rfl) q1 0 (by rfl) ((bytesOf G).map cv) _ H1.o Jh rfl (by rw [lG.o]; exact J7) ?_
   rw [← EM1.o]
   refine hK.o _ _ trivial (fun hHeld => ?_)
   try simp only [qd]
   exact ih 13 (by decide) (by decide) _ _ _ _ (by rfl) (by kernel_rfl) ⟨q1, c1, rfl, KV⟩
  refine zK qbx (fun K hK => ?_) ?_
  ·
   obtain ⟨cc, V, hcv, hR, HBx, hSz⟩ := JT 9 89 5 JA Jt Jv D v
   rw [D64.o] at hcv
   refine yl (by rfl) (.slice (some ⟨v.heap.size, 0, none⟩) 64 cc) (yV _ rfl D rfl _ _ _ hcv) ?_
   refine hK.o _ _ trivial (fun hHeld => ?_)
   clear hcv
   try simp only [qd]
   refine zU 18 qbh (zp v.heap.size 0) ?_
   simp only [qd]
   exact ih 12 (by decide) (by decide) _ _ _ _ (by rfl) (by kernel_rfl) ⟨q1, c1, v.heap.size, cc, rfl, qa (q8 H1.o HBx L1.o), qa (zl L1.o HBx.size), qa hR, qa (by show _ < _; rw [hSz]; exact Nat.lt_succ_self _), qa (KV.o.trans (HBx.mono KV.o.size))⟩
  exact zu
 | 9, _, ih, hI =>
  dsimp only [jU] at hI
  obtain ⟨q1, c1, q2, c2, rfl, H1, L1, KV⟩ := hI
  refine zW [2, 14] ?_
  refine zK Y7 (fun K hK => ?_) ?_
  ·
   refine zE (kc _ rfl (.string A) rfl v) (YY A A4.o n En.o v) fun V HBx => ?_
   refine hK.o _ _ trivial (fun hHeld => ?_)
   try simp only [qd]
   exact ih 15 (by decide) (by decide) _ _ _ _ (by rfl) (by kernel_rfl) ⟨q1, c1, q2, c2, rfl, qa (q8 H1.o HBx L1.o), qa (zl L1.o HBx.size), qa (KV.o.trans (HBx.mono KV.o.size))⟩
  refine zK qbz (fun K hK => ?_) ?_
  ·
   refine yM (by rfl) 102 (.tmp 24) (by rfl) q1 0 (by rfl) ((bytesOf G).map cv) _ H1.o Jh rfl (by rw [lG.o]; exact J7) ?_
   rw [← EM1.o]
   refine hK.o _ _ trivial (fun hHeld => ?_)
   try simp only [qd]
   exact ih 14 (by decide) (by decide) _ _ _ _ (by rfl) (by kernel_rfl) ⟨q1, c1, q2, c2, rfl, KV⟩
  exact zu
 | 10, _, ih, hI =>
  dsimp only [jU] at hI
  obtain ⟨q1, c1, q2, c2, rfl, H2, L2, KV⟩ := hI
  refine zW [2, 19] ?_
  refine zK Y7 (fun K hK => ?_) ?_
  ·
   refine zE (kc _ rfl (.string A) rfl v) (YY A A4.o n En.o v) fun V HBx => ?_
   refine hK.o _ _ trivial (fun hHeld => ?_)
   try simp only [qd]
   exact ih 16 (by decide) (by decide) _ _ _ _ (by rfl) (by kernel_rfl) ⟨q1, c1, q2, c2, rfl, qa (q8 H2.o HBx L2.o), qa (zl L2.o HBx.size), qa (KV.o.trans (HBx.mono KV.o.size))⟩
  refine zK qby (fun K hK => ?_) ?_
  ·
   refine yM (by rfl) 102 (.tmp 29) (by rfl) q2 0 (by rfl) ((bytesOf D).map cv) _ H2.o Jh rfl (by rw [lD.o]; exact J7) ?_
   rw [← EM2.o]
   refine hK.o _ _ trivial (fun hHeld => ?_)
   try simp only [qd]
   exact ih 14 (by decide) (by decide) _ _ _ _ (by rfl) (by kernel_rfl) ⟨q1, c1, q2, c2, rfl, KV⟩
  exact zu
 | 11, _, ih, hI =>
  dsimp only [jU] at hI
  obtain ⟨q2, c2, rfl, KV⟩ := hI
  refine zW [12] ?_
  refine zK qbt (fun K hK => ?_) ?_
  ·
   obtain ⟨cc, V, hcv, hR, HBx, hSz⟩ := JT 9 89 5 JA Jt Jv G v
   rw [G64.o] at hcv
   refine yl (by rfl) (.slice (some ⟨v.heap.size, 0, none⟩) 64 cc) (yV _ rfl G rfl _ _ _ hcv) ?_
   refine hK.o _ _ trivial (fun hHeld => ?_)
   clear hcv
   try simp only [qd]
   refine zU 13 qbs (zp v.heap.size 0) ?_
   simp only [qd]
   exact ih 15 (by decide) (by decide) _ _ _ _ (by rfl) (by kernel_rfl) ⟨v.heap.size, cc, q2, c2, rfl, qa hR, qa (by show _ < _; rw [hSz]; exact Nat.lt_succ_self _), qa (KV.o.trans (HBx.mono KV.o.size))⟩
  exact zu
 | 12, _, ih, hI =>
  dsimp only [jU] at hI
  obtain ⟨q1, c1, q2, c2, rfl, H1, L1, H2, L2, KV⟩ := hI
  refine zW [14, 19] ?_
  refine zK qbz (fun K hK => ?_) ?_
  ·
   refine yM (by rfl) 102 (.tmp 24) (by rfl) q1 0 (by rfl) ((bytesOf G).map cv) _ H1.o Jh rfl (by rw [lG.o]; exact J7) ?_
   rw [← EM1.o]
   refine hK.o _ _ trivial (fun hHeld => ?_)
   try simp only [qd]
   exact ih 16 (by decide) (by decide) _ _ _ _ (by rfl) (by kernel_rfl) ⟨q1, c1, q2, c2, rfl, H2, L2, KV⟩
  refine zK qby (fun K hK => ?_) ?_
  ·
   refine yM (by rfl) 102 (.tmp 29) (by rfl) q2 0 (by rfl) ((bytesOf D).map cv) _ H2.o Jh rfl (by rw [lD.o]; exact J7) ?_
   rw [← EM2.o]
   refine hK.o _ _ trivial (fun hHeld => ?_)
   try simp only [qd]
   exact ih 15 (by decide) (by decide) _ _ _ _ (by rfl) (by kernel_rfl) ⟨q1, c1, q2, c2, rfl, H1, L1, KV⟩
  exact zu
 | 13, _, ih, hI =>
  dsimp only [jU] at hI
  obtain ⟨q1, c1, rfl, KV⟩ := hI
  refine zW [17] ?_
  refine zK qbx (fun K hK => ?_) ?_
  ·
   obtain ⟨cc, V, hcv, hR, HBx, hSz⟩ := JT 9 89 5 JA Jt Jv D v
   rw [D64.o] at hcv
   refine yl (by rfl) (.slice (some ⟨v.heap.size, 0, none⟩) 64 cc) (yV _ rfl D rfl _ _ _ hcv) ?_
   refine hK.o _ _ trivial (fun hHeld => ?_)
   clear hcv
   try simp only [qd]
   refine zU 18 qbh (zp v.heap.size 0) ?_
   simp only [qd]
   exact ih 16 (by decide) (by decide) _ _ _ _ (by rfl) (by kernel_rfl) ⟨q1, c1, v.heap.size, cc, rfl, qa hR, qa (by show _ < _; rw [hSz]; exact Nat.lt_succ_self _), qa (KV.o.trans (HBx.mono KV.o.size))⟩
  exact zu
 | 14, _, ih, hI =>
  dsimp only [jU] at hI
  obtain ⟨q1, c1, q2, c2, rfl, KV⟩ := hI
  refine zW [2] ?_
  refine zK Y7 (fun K hK => ?_) ?_
  ·
   refine zE (kc _ rfl (.string A) rfl v) (YY A A4.o n En.o v) fun V HBx => ?_
   refine hK.o _ _ trivial (fun hHeld => ?_)
   try simp only [qd]
   exact ih 17 (by decide) (by decide) _ _ _ _ (by rfl) (by kernel_rfl) ⟨q1, c1, q2, c2, rfl, qa (KV.o.trans (HBx.mono KV.o.size))⟩
  exact zu
 | 15, _, ih, hI =>
  dsimp only [jU] at hI
  obtain ⟨q1, c1, q2, c2, rfl, H1, L1, KV⟩ := hI
  refine zW [14] ?_
  refine zK qbz (fun K hK => ?_) ?_
  ·
   refine yM (by rfl) 102 (.tmp 24) (by rfl) q1 0 (by rfl) ((bytesOf G).map cv) _ H1.o Jh rfl (by rw [lG.o]; exact J7) ?_
   rw [← EM1.o]
   refine hK.o _ _ trivial (fun hHeld => ?_)
   try simp only [qd]
   exact ih 17 (by decide) (by decide) _ _ _ _ (by rfl) (by kernel_rfl) ⟨q1, c1, q2, c2, rfl, KV⟩
  exact zu
 | 16, _, ih, hI =>
  dsimp only [jU] at hI
  obtain ⟨q1, c1, q2, c2, rfl, H2, L2, KV⟩ := hI
  refine zW [19] ?_
  refine zK qby (fun K hK => ?_) ?_
  ·
   refine yM (by rfl) 102 (.tmp 29) (by rfl) q2 0 (by rfl) ((bytesOf D).map cv) _ H2.o Jh rfl (by rw [lD.o]; exact J7) ?_
   rw [← EM2.o]
   refine hK.o _ _ trivial (fun hHeld => ?_)
   try simp only [qd]
   exact ih 17 (by decide) (by decide) _ _ _ _ (by rfl) (by kernel_rfl) ⟨q1, c1, q2, c2, rfl, KV⟩
  exact zu
 | 17, _, ih, hI =>
  dsimp only [jU] at hI
  obtain ⟨q1, c1, q2, c2, rfl, KV⟩ := hI
  have hHeld : True := trivial
  refine zT 20 ⟨some 31, .build 114 #[(0, .tmp 13), (1, .tmp 16), (2, .tmp 18), (3, .tmp 20), (4, .tmp 25), (5, .tmp 30)], 114, "image.go:40", #[ql 2, ql 5, ql 7, ql 9, ql 14, ql 19], none⟩ (.agg I) (Yq (by rfl) _ _ rfl _ _ (by kernel_rfl) HIb.o) ?_
  simp only [qd]
  have ZN := qa (qs R1.o KV.o (qh R1.o))
  have BF := qa (B1.o.trans (KV.o.mono B1.o.size))
  refine zR 21 ⟨none, .store 114 (.tmp 2) (.tmp 31), 0, "image.go:40", #[ql 20, qT 2, qj 0, qj 1, qj 2, qj 3, qj 4, qj 5, qj 6, qj 7, qj 8, qj 9, qj 10, qj 11, qj 12, qj 13, qj 14, qj 15, qj 16, qj 17, qj 18, qj 19, qj 20], none⟩ fun K hK => ?_
  refine zQ 114 (.tmp 2) (.tmp 31) (w.heap.size) I ZN.o (by rw [ZW, HIs.o]) (by rw [yT, HIs.o]) HIa.o ?_
  rw [qH]
  refine hK.o _ _ trivial (fun hHeld => ?_)
  try simp only [qd]
  refine zU 22 ⟨some 3, .assign (.const .nilIface), 66, "image.go:40", #[qT 21, qj 0, qj 1, qj 2, qj 3, qj 4, qj 5, qj 6, qj 7, qj 8, qj 9, qj 10, qj 11, qj 12, qj 13, qj 14, qj 15, qj 16, qj 17, qj 18, qj 19, qj 20, qj 21], none⟩ (.nilIface) ?_
  simp only [qd]
  refine zi (by kernel_rfl) ?_ _
  go_wp2_with fail
  refine zh (v := .tuple #[.agg I, .nilIface]) (jJ Tryz.results84 _ _ (w.heap.size) 114 _ (0, 0) _ (by rfl) (zd _ _ _ _ _ _ ZN.o) Tryz.underlying114 rfl (by rw [ZW, HIs.o])) rfl ⟨by rw [EIR.o], ze BF.o (zm _) _⟩
end
open Go.RowKit
def ZM (kv : Value) (v : Int) (b r : Nat) : Array Value := #[kv, .int .u32 v, zp b 0, .map (some r)]
def YO (w : World) (kv : Value) (ks : List Nat) : Prop :=
 (kv = .slice none 0 0 ∧ ks = []) ∨ ∃ q cap, kv = .slice (some ⟨q, 0, none⟩) ks.length cap ∧ ks.length ≤ cap ∧ cap ≤ maxLen ∧ q < w.heap.size ∧ ∀ i (h : i < ks.length), w.rangeAt q (32 * i) (bL ks[i])
theorem YO.kept {w w' : World} {kv : Value} {ks : List Nat} (h : YO w kv ks) (hs : w.heap.size ≤ w'.heap.size) (hk : ∀ q, kv.ownBlock = some q → w'.heap[q]? = w.heap[q]?) : YO w' kv ks := by
 rcases h with h | ⟨q, cap, rfl, h1, h2, h3, h4⟩
 · exact .inl h
 · exact .inr ⟨q, cap, rfl, h1, h2, zl h3 hs, fun i hi j v hv => (zo (hk q rfl)).trans (h4 i hi j v hv)⟩
structure Ld (w : World) (g : Nat) (T : TypeId) (kv : Value) (ks : List Nat) (v : Int) (b r : Nat) (l : List (Nat × Nat)) (clock : Nat) : Prop where
 row : w.heap[g]? = some (.cells (ZM kv v b r) T (0, 0))
 keys : YO w kv ks
 small : ∀ k ∈ ks, k < ZL
 base : jp w b
 map : w.heap[r]? = some (.map (QG b l) clock)
 ent : ∀ x ∈ l, x.1 < ZL ∧ jg x.1 = true
 v0 : 0 ≤ v
 v1 : v < 4294967296
 gb : g ≠ b
 gr : g ≠ r
 br : b ≠ r
 kg : ∀ q, kv.ownBlock = some q → q ≠ g ∧ q ≠ b ∧ q ≠ r
theorem qkg (w : World) (g : Nat) (v : Int) (h : w.cell? ⟨g, 1, none⟩ = some (.int .u32 v)) :
  Calls Tryz.prog 54 #[zp g 0] w fun e w' => e = .returned (.int .u32 v) ∧ w' = w := by
 go_enter Tryz.func54, Tryz.ntmps54
 go_wp2_with fail
 go_returns
 exact ⟨rfl, rfl⟩
theorem qdK (w : World) (g : Nat) (v : Int) (h : w.cell? ⟨g, 1, none⟩ = some (.int .u32 v)) :
  Calls Tryz.prog 28 #[zp g 0] w fun e w' => e = .returned (.int .u32 v) ∧ w' = w := by
 have HH := qa h
 clear h
 go_enter Tryz.func28, Tryz.ntmps28
 go_wp2_with fail
 refine (qkg w g v HH.o).mono ?_
 rintro e W1 ⟨rfl, hw⟩
 have hw' := hw.symm
 subst hw'
 clear hw
 go_wp2_with fail
 go_returns
 exact ⟨rfl, rfl⟩
end Go.Proofs.YtccgfabojbjmjaaGreatDoor
