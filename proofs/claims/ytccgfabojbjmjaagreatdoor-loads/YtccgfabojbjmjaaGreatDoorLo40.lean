import Derived.Test.YtccgfabojbjmjaaGreatDoorLo38
set_option maxRecDepth 100000
set_option maxHeartbeats 8000000
namespace Go.Proofs.YtccgfabojbjmjaaGreatDoor
open Go.RowKit
open Go.RowKit
def yq : ByteArray := ⟨#[76, 65, 84, 67, 72, 73, 77, 71]⟩
theorem qfa : yq.toList = [76, 65, 84, 67, 72, 73, 77, 71] := by rw [ByteArray.toList_eq]; rfl
def hdT : ByteArray := ⟨#[116, 104, 101, 32, 104, 101, 97, 100]⟩
def mcT : ByteArray := ⟨#[116, 104, 101, 32, 109, 97, 103, 105, 99]⟩
def qqG : ByteArray := ⟨#[116, 104, 101, 32, 104, 101, 97, 100, 39, 115, 32, 114, 101, 115, 116]⟩
def zeT : ByteArray := ⟨#[116, 104, 101, 32, 115, 105, 122, 101]⟩
def QX : List UInt8 := List.replicate 47 0
theorem qtZ (w : World) : (zeroValue 261).run Tryz.prog w = .ok (.agg (QX.map cv).toArray) w := by kernel_rfl
theorem qe8 : Tryz.prog.underlying 261 = some (.array 47 5) := by kernel_rfl
theorem qtv : (Tryz.prog.info? 261).map (·.size) = some 47 := by kernel_rfl
theorem qu1 (b o cap : Nat) (w : World) : (Instr.arrayAt 261 (.slice (some ⟨b, o, none⟩) 47 cap)).run Tryz.prog w = .ok (.pointer (some ⟨b, o, none⟩)) w := by
 simp [Instr.arrayAt, run_underlying qe8]
theorem qo4 (w : World) : (sizeOf 5).run Tryz.prog w = .ok 1 w := by
 cases hq : Tryz.prog.info? 5 with
 | none => have := kP; rw [hq] at this; cases this
 | some inf =>
  have hi : inf.size = 1 := by have := kP; rw [hq] at this; simpa using this
  simp [sizeOf, typeInfo, hq, hi]
theorem qv5 (x y : List UInt8) (hx : x.length = 47) (hy : y.length = 47) (w : World) : (Op.equalIn 10000 261 (.agg (x.map cv).toArray) (.agg (y.map cv).toArray)).run Tryz.prog w = .ok (x == y) w :=
 run_equalIn_bytes (P := Tryz.prog) w 9998 261 5 47 qe8 qe5 qo4 x y hx hy
theorem qeX {a b : ByteArray} (h : a ≠ b) : (a.toList == b.toList) = false := by
 rw [beq_eq_false_iff_ne]
 intro e
 rw [ByteArray.toList_eq, ByteArray.toList_eq] at e
 exact h (by rw [← Yl a, ← Yl b]; exact congrArg jk e)
theorem Ys (s : ByteArray) (a b : Nat) : bytesOf (s.extract a b) = ((bytesOf s).drop a).take (b - a) := by
 unfold bytesOf
 simp only [ByteArray.data_extract, Array.toList_extract, List.extract_eq_take_drop]
theorem QS (s : ByteArray) (a b : Nat) (h : b ≤ s.size) : (s.extract a b).size = b - a := by
 rw [← jY, Ys, Zh, Zi, jY]; omega
noncomputable def QW (s : ByteArray) : Value :=
 if s.size < 192 then qQ hdT (jS 5) else if s.extract 0 8 = yq then (if bytesOf (s.extract 17 64) = QX then (if QK (s.extract 12 16) 4 = s.size - 192 then .nilIface else qQ zeT (jS 8)) else qQ qqG (jS 7)) else qQ mcT (jS 6)
theorem qcm (s : ByteArray) (hm : s.size ≤ maxLen) (w : World) : zC 130 #[.string s] w (QW s) := by
 have Hm := qa hm
 clear hm
 have hz := qtZ
 go_enter Tryz.func130, Tryz.ntmps130
 by_cases h1 : s.size < 192
 ·
  have EE : Hid (QW s = qQ hdT (jS 5)) := by show _ = _; unfold QW; rw [if_pos h1]
  have h1' : (s.size : Int) < 192 := by omega
  clear h1
  go_wp2_with fail
  refine (qak hdT 5 _).mono ?_
  rintro e W1 ⟨rfl, hw⟩
  have hw' := hw.symm
  subst hw'
  clear hw
  go_wp2_with fail
  go_returns
  exact ⟨by rw [EE.o]; rfl, zJ _ _⟩
 have h1' : (192 : Int) ≤ (s.size : Int) := by omega
 have h8 : (8 : Int) ≤ (s.size : Int) := by omega
 have h64 : (64 : Int) ≤ (s.size : Int) := by omega
 have h16 : (16 : Int) ≤ (s.size : Int) := by omega
 have H192 : Hid (192 ≤ s.size) := by show _ ≤ _; omega
 clear h1
 obtain ⟨A, EA⟩ := zx (s.extract 0 8)
 have hxA : s.extract 0 8 = A := EA.o.symm
 by_cases h2 : A = yq
 case neg =>
  have EE : Hid (QW s = qQ mcT (jS 6)) := by show _ = _; unfold QW; rw [if_neg (by have := H192.o; omega), if_neg (by rw [hxA]; exact h2)]
  have hne : (A.toList == [76, 65, 84, 67, 72, 73, 77, 71]) = false := by rw [← qfa]; exact qeX h2
  clear h2
  go_wp2_with fail
  refine (qak mcT 6 _).mono ?_
  rintro e W1 ⟨rfl, hw⟩
  have hw' := hw.symm
  subst hw'
  clear hw
  go_wp2_with fail
  go_returns
  exact ⟨by rw [EE.o]; rfl, zJ _ _⟩
 case pos =>
 have heq : (A.toList == [76, 65, 84, 67, 72, 73, 77, 71]) = true := by rw [h2, qfa]; rfl
 have H2 := qa h2
 clear h2
 obtain ⟨T, ET⟩ := zx (s.extract 17 64)
 have hxT : s.extract 17 64 = T := ET.o.symm
 have T47 : Hid (T.size = 47) := by show _ = _; rw [ET.o, QS _ _ _ (by have := H192.o; omega)]
 obtain ⟨cap, W1, hcv, hR, hB, hSz⟩ := JT 9 89 5 JA Jt Jv T w
 rw [T47.o] at hcv
 obtain ⟨q, hq⟩ := zy w.heap.size
 rw [← hq] at hcv hR
 clear hq hSz
 obtain ⟨M1, EM1⟩ := zx ((bytesOf T).map cv)
 rw [← EM1.o] at hR
 have HR := qa hR
 have HB := qa hB
 clear hR hB
 have lk : (bytesOf T).length = 47 := by rw [jY, T47.o]
 have HM1 : Hid ((Tryz.prog.info? 261).map (·.size) = some M1.length) := by show _ = _; rw [qtv, EM1.o, zv, lk]
 have ha1 := qu1
 have heq47 : ∀ w, (Op.equalIn 10000 261 (.agg M1.toArray) (.agg (QX.map cv).toArray)).run Tryz.prog w = .ok (bytesOf T == QX) w := by rw [EM1.o]; exact qv5 _ _ lk rfl
 clear lk
 obtain ⟨Z, EZ⟩ := zx ((QX.map cv).toArray)
 rw [← EZ.o] at hz heq47
 obtain ⟨B, EB⟩ := zx ((bytesOf T == QX))
 rw [← EB.o] at heq47
 cases hBv : B
 case false =>
  have EE : Hid (QW s = qQ qqG (jS 7)) := by
   show _ = _
   unfold QW
   rw [if_neg (by have := H192.o; omega), hxA, if_pos H2.o, hxT, if_neg (by intro h; have e := EB.o; rw [hBv, h] at e; revert e; simp)]
  subst hBv
  go_wp2_with (first
   | (refine zG (by rfl) 261 (.tmp 14) (by rfl) q 0 (by rfl) M1 _ HR.o qe8 rfl HM1.o ?_))
  refine (qak qqG 7 _).mono ?_
  rintro e W2 ⟨rfl, hw⟩
  have hw' := hw.symm
  subst hw'
  clear hw
  go_wp2_with fail
  go_returns
  exact ⟨by rw [EE.o]; rfl, HB.o⟩
 case true =>
 have H3 : Hid (bytesOf T = QX) := by have e := EB.o; rw [hBv] at e; exact (beq_iff_eq.1 e.symm)
 subst hBv
 obtain ⟨D, ED⟩ := zx (s.extract 12 16)
 have hxD : s.extract 12 16 = D := ED.o.symm
 have D4 : Hid (D.size = 4) := by show _ = _; rw [ED.o, QS _ _ _ (by have := H192.o; omega)]
 go_wp2_with (first
   | (refine zG (by rfl) 261 (.tmp 14) (by rfl) q 0 (by rfl) M1 _ HR.o qe8 rfl HM1.o ?_))
 refine (qed D D4.o _).mono ?_
 rintro e W2 ⟨rfl, hw⟩
 have hw' := hw.symm
 subst hw'
 clear hw
 obtain ⟨n, En⟩ := zx (α := Nat) (QK D 4)
 have ln : n < 4294967296 := by rw [En.o]; exact kl D 4 (by have := D4.o; omega)
 rw [← En.o]
 have hsub : IntKind.i64.wrap ((s.size : Int) - 192) = (s.size : Int) - 192 := by
  have := Hm.o
  unfold maxLen at this
  rw [zq]; omega
 go_wp2_with fail
 have HI := qi1 (n : Int) ((s.size : Int) - 192) (by omega) (by omega) (by omega) (by have := Hm.o; unfold maxLen at this; omega) W1
 by_cases c : n = s.size - 192
 ·
  rw [zN (show (n : Int) = (s.size : Int) - 192 by have := H192.o; omega)] at HI
  have EE : Hid (QW s = .nilIface) := by
   show _ = _
   unfold QW
   rw [if_neg (by have := H192.o; omega), hxA, if_pos H2.o, hxT, if_pos H3.o, hxD, ← En.o, if_pos c]
  refine HI.mono ?_
  rintro e W2 ⟨rfl, hw⟩
  have hw' := hw.symm
  subst hw'
  clear hw HI c
  go_wp2_with fail
  go_returns
  exact ⟨by rw [EE.o]; rfl, HB.o⟩
 ·
  rw [zD (show ¬ (n : Int) = (s.size : Int) - 192 by have := H192.o; omega)] at HI
  have EE : Hid (QW s = qQ zeT (jS 8)) := by
   show _ = _
   unfold QW
   rw [if_neg (by have := H192.o; omega), hxA, if_pos H2.o, hxT, if_pos H3.o, hxD, ← En.o, if_neg c]
  refine HI.mono ?_
  rintro e W2 ⟨rfl, hw⟩
  have hw' := hw.symm
  subst hw'
  clear hw HI c
  go_wp2_with fail
  refine (qak zeT 8 _).mono ?_
  rintro e W2 ⟨rfl, hw⟩
  have hw' := hw.symm
  subst hw'
  clear hw
  go_wp2_with fail
  go_returns
  exact ⟨by rw [EE.o]; rfl, HB.o⟩
open Go.RowKit
def Js (v k : Int) (p sg : ByteArray) (S D : List UInt8) : List Value := .int .u32 v :: .int .i64 k :: .string p :: .string sg :: (S.map cv ++ D.map cv)
def Qi (v k : Int) (p sg : ByteArray) (S D : List UInt8) : Array Value := (Js v k p sg S D).toArray
def dgT : ByteArray := ⟨#[116, 104, 101, 32, 100, 105, 103, 101, 115, 116]⟩
theorem qs0 {w : World} {g : Nat} {v k : Int} {p sg : ByteArray} {S D : List UInt8} {T : TypeId} {fr : Nat × Nat} (h : w.heap[g]? = some (.cells (Qi v k p sg S D) T fr)) : w.cell? ⟨g, 2, none⟩ = some (.string p) := by rw [zj w g 2 _ T _ h]; rfl
theorem qsp {w : World} {g : Nat} {v k : Int} {p sg : ByteArray} {S D : List UInt8} {T : TypeId} {fr : Nat × Nat} (hS : S.length = 64) (h : w.heap[g]? = some (.cells (Qi v k p sg S D) T fr)) : w.rangeAt g 68 (D.map cv) := by
 intro j v hv
 have l64 : (S.map cv).length = 64 := by rw [zv, hS]
 rw [zj w g (68 + j) _ T _ h, Qi, zV, Js, show 68 + j = (64 + j) + 1 + 1 + 1 + 1 by omega, List.getElem?_cons_succ, List.getElem?_cons_succ, List.getElem?_cons_succ, List.getElem?_cons_succ, zY (by rw [l64]; omega), l64, show 64 + j - 64 = j by omega]
 exact hv
theorem qdQ {a : Act} {o : Oper} (x : Operand) (ho : o.op = .load 9 x) (ad : Addr) (hx : a.eval x = .pointer (some ad)) (v : Value) (w : World) (h : w.cell? ad = some v) :
  (execOp a.eval o).run Tryz.prog w = .ok (.value v) w := by
 unfold execOp
 simp only [ho, hx]
 go_simp
theorem qvN (x y : List UInt8) (hx : x.length = 64) (hy : y.length = 64) (w : World) : (Op.equalIn 10000 102 (.agg (x.map cv).toArray) (.agg (y.map cv).toArray)).run Tryz.prog w = .ok (x == y) w :=
 run_equalIn_bytes (P := Tryz.prog) w 9998 102 5 64 Jh qe5 qo4 x y hx hy
theorem qlK {a : Act} {o : Oper} (x y : Operand) (ho : o.op = .binOp .neq 102 x y 102) (X Y : Array Value) (B : Bool) (h : ∀ w, (Op.equalIn 10000 102 (.agg X) (.agg Y)).run Tryz.prog w = .ok B w) (hx : a.eval x = .agg X) (hy : a.eval y = .agg Y) (w : World) :
  (execOp a.eval o).run Tryz.prog w = .ok (.value (.bool (!B))) w := by
 unfold execOp
 simp only [ho, hx, hy]
 go_simp
theorem qvb {ops : Array Oper} {S : World → Prop} {op : Oper} {a : Act} (hw : Region.wanted op (yielded ops a.tmps) = true) (x : Operand) (ho : op.op = .load 102 x)
  (b o : Nat) (L : List Value) (hL : L.length = 64) (M : Array Value) (hM : L.toArray = M) (hx : a.eval x = .pointer (some ⟨b, o, none⟩)) (hS : ∀ w, S w → w.rangeAt b o L) : YieldsIf Tryz.prog ops S op (.agg M) a :=
 YE hw _ x ho b o hx L M hM _ hS Jh rfl (by rw [J7, hL])
theorem qov {a : Act} {o : Oper} (x : Operand) (ho : o.op = .call { callee := .value (.func 48), args := #[x], argTypes := #[9] }) (v1 : Value) (hx : a.eval x = v1) (w : World) :
  (execOp a.eval o).run Tryz.prog w = .ok (.enter 48 #[v1]) w := by
 unfold execOp
 simp only [ho]
 subst hx
 go_simp
theorem quw (s : ByteArray) (hs : s.size ≤ maxLen) (M : Array Value) (hM : M = ((jD (bytesOf s)).map cv).toArray) (w : World) (hK : j9 w) :
  zC 48 #[.string s] w (.agg M) := by rw [hM]; exact qta s w hK hs
noncomputable def ckE (p : ByteArray) (D : List UInt8) : Value := if jD (bytesOf p) = D then .nilIface else qQ dgT (jS 11)
theorem qfR (v k : Int) (p sg : ByteArray) (S D : List UInt8) : (Qi v k p sg S D).size = 4 + (S.length + D.length) := by simp [Qi, Js]; omega
section
attribute [local irreducible] Qi Js
theorem qdd (v k : Int) (p sg : ByteArray) (S D : List UInt8) (hS : S.length = 64) (hD : D.length = 64) (hp : p.size ≤ maxLen) (w : World) (hK : j9 w) :
  zC 133 #[.agg (Qi v k p sg S D)] w (ckE p D) := by
 have HK := qa hK
 have Hp := qa hp
 have HS := qa hS
 have HD := qa hD
 clear hK hp hS hD
 go_enter Tryz.func133, Tryz.ntmps133
 go_upto_region 1 with fail
 obtain ⟨W0, hW0⟩ := zy (w.alloc (.cells (Qi v k p sg S D) 114))
 have R0 : Hid (qi W0 w.heap.size (Qi v k p sg S D) 114) := by rw [hW0]; exact za _ _
 have B0 : Hid (zB w W0) := by rw [hW0]; exact (zJ _ _).alloc (zm _) _
 rw [← hW0]
 clear hW0
 have K0 := qa (HK.o.below B0.o HK.o.lt)
 obtain ⟨M1, EM1⟩ := zx (((jD (bytesOf p)).map cv).toArray)
 obtain ⟨M2, EM2⟩ : ∃ M, Hid ((D.map cv).toArray = M) := ⟨_, qa rfl⟩
 obtain ⟨B, EB⟩ := zx ((jD (bytesOf p) == D))
 have HE : Hid (∀ w, (Op.equalIn 10000 102 (.agg M1) (.agg M2)).run Tryz.prog w = .ok B w) := by
  show ∀ w, _
  rw [EM1.o, ← EM2.o, EB.o]
  exact qvN _ _ (qao _) HD.o
 have l0 := qa (qh R0.o)
 have SAT : Hid (∀ V : World, zB W0 V → V.cell? ⟨w.heap.size, 2, none⟩ = some (.string p) ∧ V.rangeAt w.heap.size 68 (D.map cv)) := fun _ hB => ⟨(hB.cell l0.o).trans (qs0 R0.o), q8 (qsp HS.o R0.o) hB l0.o⟩
 refine zM (S := fun w' => w'.cell? ⟨w.heap.size, 2, none⟩ = some (.string p) ∧ w'.rangeAt w.heap.size 68 (D.map cv)) (by kernel_rfl) (SAT.o _ (zJ _ _).drew) (fun hHeld => ?_)
 have KV1 : Hid (zB W0 W0.drew) := (zJ _ _).drew
 obtain ⟨V1, hV1⟩ := zy W0.drew
 rw [← hV1] at hHeld KV1 ⊢
 clear hV1
 refine zU 0 ⟨some 3, .fieldAddr 114 (.tmp 1) 2, 0, "image.go:81", #[], none⟩ (zp w.heap.size 2) ?_
 simp only [qd]
 refine zT 1 ⟨some 4, .load 9 (.tmp 3), 9, "image.go:81", #[ql 0], none⟩ (.string p) (Or.inl ⟨by rfl, fun v h => qdQ _ rfl _ rfl _ v h.1⟩) ?_
 simp only [qd]
 refine zU 3 ⟨some 6, .fieldAddr 114 (.tmp 1) 5, 0, "image.go:81", #[], none⟩ (zp w.heap.size 68) ?_
 simp only [qd]
 refine zT 4 ⟨some 7, .load 102 (.tmp 6), 102, "image.go:81", #[ql 3], none⟩ (.agg M2) (qvb (by rfl) _ rfl (w.heap.size) 68 (D.map cv) (by rw [zv, HD.o]) M2 EM2.o rfl (fun w h => h.2)) ?_
 simp only [qd]
 refine zR 2 ⟨some 5, .call ⟨.value (.func 48), #[.tmp 4], #[9]⟩, 102, "image.go:81", #[ql 1], none⟩ fun K hK => ?_
 refine zE (qov _ rfl (.string p) rfl V1) (quw p Hp.o M1 EM1.o V1 (K0.o.below KV1.o K0.o.lt)) fun V2 HBx => ?_
 have KV2 := qq KV1 HBx
 clear HBx
 refine hK.o _ _ (SAT.o _ KV2.o) fun hHeld => ?_
 try simp only [qd]
 refine zT 5 ⟨some 8, .binOp .neq 102 (.tmp 5) (.tmp 7) 102, 4, "image.go:81", #[ql 2, ql 4], none⟩ (.bool (!B)) (Or.inl ⟨by rfl, fun v _ => qlK _ _ rfl M1 M2 B HE.o rfl rfl v⟩) ?_
 simp only [qd]
 refine zi (by kernel_rfl) ?_ _
 have KF : Hid (zB W0 V2) := KV2
 obtain ⟨W1, hW1⟩ := zy V2
 rw [← hW1] at KF ⊢
 clear hW1
 have B1 := qa (B0.o.trans (KF.o.mono B0.o.size))
 cases hBv : B
 case false =>
  have EE : Hid (ckE p D = qQ dgT (jS 11)) := by
   show _ = _
   unfold ckE
   rw [if_neg (by intro h; have e := EB.o; rw [hBv, h] at e; revert e; simp)]
  subst hBv
  go_wp2_with fail
  refine (qak dgT 11 _).mono ?_
  rintro e W2 ⟨rfl, hw⟩
  have hw' := hw.symm
  subst hw'
  clear hw
  go_wp2_with fail
  go_returns
  exact ⟨by rw [EE.o]; rfl, B1.o⟩
 case true =>
  have EE : Hid (ckE p D = .nilIface) := by
   show _ = _
   unfold ckE
   rw [if_pos (by have e := EB.o; rw [hBv] at e; exact (beq_iff_eq.1 e.symm))]
  subst hBv
  go_wp2_with fail
  go_returns
  exact ⟨by rw [EE.o]; rfl, B1.o⟩
end
end Go.Proofs.YtccgfabojbjmjaaGreatDoor
