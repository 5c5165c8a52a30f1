import Derived.Test.YtccgfabojbjmjaaGreatDoorLo36
set_option maxRecDepth 100000
set_option maxHeartbeats 8000000
namespace Go.Proofs.YtccgfabojbjmjaaGreatDoor
open Go.RowKit
open Go.RowKit
abbrev yaC : Oper := ⟨some 38, .call ⟨.value (.func 79), #[.tmp 32, .tmp 37], #[82, 82]⟩, 82, "public.go:40", #[ql 3, ql 8, qT 8], none⟩
abbrev yaD : Oper := ⟨some 37, .call ⟨.value (.func 116), #[.tmp 36], #[82]⟩, 82, "public.go:40", #[ql 7, qT 7], none⟩
abbrev yaE : Oper := ⟨some 36, .call ⟨.value (.func 91), #[.tmp 34, .tmp 35], #[84, 60]⟩, 82, "public.go:40", #[ql 5, ql 6, qT 3], none⟩
abbrev yaF : Oper := ⟨some 32, .call ⟨.value (.func 57), #[.tmp 30, .tmp 31], #[58, 60]⟩, 82, "public.go:40", #[ql 1, ql 2], none⟩
abbrev qbb : Oper := ⟨some 10, .alloc 82, 0, "public.go:40", #[], none⟩
abbrev qa5 : Oper := ⟨none, .store 82 (.tmp 10) (.tmp 38), 0, "public.go:40", #[ql 10, ql 9, qT 9, qj 0, qj 1, qj 2, qj 3, qj 4, qj 5, qj 6, qj 7, qj 8, qj 9, qj 10], none⟩
theorem qfW {a : Act} {o : Oper} (x : Operand) (ho : o.op = .load 58 x) (ad : Addr) (hx : a.eval x = .pointer (some ad)) (v : Value) (w : World) (h : w.cell? ad = some v) :
  (execOp a.eval o).run Tryz.prog w = .ok (.value v) w := by
 unfold execOp
 simp only [ho, hx]
 go_simp
theorem qd0 {a : Act} {o : Oper} (x y : Operand) (ho : o.op = .call { callee := .value (.func 57), args := #[x, y], argTypes := #[58, 60] }) (v1 v2 : Value) (hx : a.eval x = v1) (hy : a.eval y = v2) (w : World) :
  (execOp a.eval o).run Tryz.prog w = .ok (.enter 57 #[v1, v2]) w := by
 unfold execOp
 simp only [ho]
 subst hx hy
 go_simp
theorem qb8 {a : Act} {o : Oper} (x : Operand) (ho : o.op = .call { callee := .value (.func 116), args := #[x], argTypes := #[82] }) (v1 : Value) (hx : a.eval x = v1) (w : World) :
  (execOp a.eval o).run Tryz.prog w = .ok (.enter 116 #[v1]) w := by
 unfold execOp
 simp only [ho]
 subst hx
 go_simp
theorem qaI {a : Act} {o : Oper} (ho : o.op = .alloc 82) (w : World) :
  (execOp a.eval o).run Tryz.prog w = .ok (.value (zp w.heap.size 0)) (w.alloc (.cells (pA p0) 82)) := by
 have hz := yK
 unfold execOp
 simp only [ho]
 go_simp
theorem qqU {a : Act} {o : Oper} (x y : Operand) (ho : o.op = .binOp .neq 62 x y 62) (m n : Nat) (hm : m < 115792089237316195423570985008687907853269984665640564039457584007913129639936) (hn : n < 115792089237316195423570985008687907853269984665640564039457584007913129639936) (hx : a.eval x = .agg (bA m)) (hy : a.eval y = .agg (bA n)) (w : World) :
  (execOp a.eval o).run Tryz.prog w = .ok (.value (.bool (!decide (m = n)))) w := by
 have e := qkz m n hm hn
 unfold execOp
 simp only [ho, hx, hy]
 go_simp
theorem qdY {ops : Array Oper} {S : World → Prop} {op : Oper} {a : Act} (hw : Region.wanted op (yielded ops a.tmps) = true) (x : Operand) (ho : op.op = .load 62 x)
  (b o n : Nat) (hx : a.eval x = .pointer (some ⟨b, o, none⟩)) (hS : ∀ w, S w → w.rangeAt b o (bL n)) : YieldsIf Tryz.prog ops S op (.agg (bA n)) a :=
 YE hw _ x ho b o hx (bL n) (bA n) rfl _ hS ZH rfl (by show _ = some (bL n).length; rw [kU]; simp [bL, jM])
theorem qru (p : Pt) (hp : p.Ok) (c : Nat) (hc : c = y8 p) (w : World) :
  zC 58 #[.agg (pA p)] w (.agg (bA c)) := by rw [hc]; exact qqn p hp w
theorem qo5 {w : World} {g b m : Nat} {f : Nat → Pt} {T : TypeId} {fr : Nat × Nat} (h : w.heap[g]? = some (.cells (jx b m f) T fr)) : w.cell? ⟨g, 0, none⟩ = some (zp b 0) := by rw [zj w g 0 _ T _ h]; rfl
theorem qtA {w : World} {g b m : Nat} {f : Nat → Pt} {T : TypeId} {fr : Nat × Nat} (h : w.heap[g]? = some (.cells (jx b m f) T fr)) : w.rangeAt g 1 (bL m) := by
 intro j v hv
 rw [zj w g (1 + j) _ T _ h, jx, zV, Jq, Nat.add_comm 1 j, List.getElem?_cons_succ, z5 (by
  rcases Nat.lt_or_ge j ((qI m 32).map cv).length with k | k
  · exact k
  ·
   have e : (bL m)[j]? = none := List.getElem?_eq_none k
   rw [e] at hv; cases hv)]
 exact hv
theorem qkD {w : World} {g b m : Nat} {f : Nat → Pt} {T : TypeId} {fr : Nat × Nat} (h : w.heap[g]? = some (.cells (jx b m f) T fr)) : w.rangeAt g 33 (jb f 4) := by
 intro j v hv
 have l32 : ((qI m 32).map cv).length = 32 := by rw [zv, jM]
 rw [zj w g (33 + j) _ T _ h, jx, zV, Jq, show 33 + j = (32 + j) + 1 by omega, List.getElem?_cons_succ, zY (by rw [l32]; omega), l32, show 32 + j - 32 = j by omega]
 exact hv
theorem qg8 (b o cap : Nat) (w : World) : (Instr.arrayAt 62 (.slice (some ⟨b, o, none⟩) 32 cap)).run Tryz.prog w = .ok (.pointer (some ⟨b, o, none⟩)) w := by
 simp [Instr.arrayAt, run_underlying ZH]
theorem qsH (b o cap : Nat) (w : World) : (Instr.arrayAt 61 (.slice (some ⟨b, o, none⟩) 32 cap)).run Tryz.prog w = .ok (.pointer (some ⟨b, o, none⟩)) w := by
 simp [Instr.arrayAt, run_underlying kL]
theorem qcb {b g o : Nat} {w w' : World} {l : List Value} (h : w.rangeAt g o l) (hx : qG b w w') (hg : g < w.heap.size) (hb : g ≠ b) : w'.rangeAt g o l := fun j v hv => (zo (hx.block g hg hb)).trans (h j v hv)
theorem qnJ (L : List UInt8) (_ : L.length = 64) {w : World} {b : Nat} {T : TypeId} {fr : Nat × Nat} (hr : w.heap[b]? = some (.cells (L.map cv).toArray T fr)) : w.rangeAt b 0 ((L.take 32).map cv) ∧ w.rangeAt b 32 ((L.drop 32).map cv) := by
 constructor
 ·
  intro j v hv
  rw [Zb, zj w b j _ T _ hr, zV]
  rw [Zp, Zq] at hv
  rw [Zp]
  by_cases c : j < 32
  · rw [if_pos c] at hv; exact hv
  · rw [if_neg c] at hv; cases hv
 ·
  intro j v hv
  rw [zj w b (32 + j) _ T _ hr, zV, Zp]
  rw [Zp, Zr] at hv
  exact hv
theorem qeR (l : List UInt8) (h : l.length = 32) : (l.map cv).toArray = bA (qC l) := by
 rw [qst, qaR l h]
def qtW : ByteArray := ⟨#[116, 104, 101, 32, 115, 105, 103, 110, 97, 116, 117, 114, 101, 39, 115, 32, 83]⟩
def qmM : ByteArray := ⟨#[116, 104, 101, 32, 115, 105, 103, 110, 97, 116, 117, 114, 101]⟩
noncomputable def Yp (m : Nat) (msg : ByteArray) (L : List UInt8) : Nat := qC (jD (L.take 32 ++ (qI m 32 ++ bytesOf msg))) % jf
noncomputable def Yi (m : Nat) (msg : ByteArray) (L : List UInt8) : Nat := y8 (ZI (qV (qR qX) (qC (L.drop 32)) 64) (Qy (qV (Qj m) (Yp m msg L) 64)))
noncomputable def yB (sA gA : Addr) (m : Nat) (msg : ByteArray) (L : List UInt8) : Value :=
 if qC (L.drop 32) < jf then (if Yi m msg L = qC (L.take 32) then .nilIface else qQ qmM (qU gA)) else qQ qtW (qU sA)
theorem qpZ (p q : Pt) : (ZI p q).Ok := qaN _ _ _ _
theorem qkO {y : Nat} (hy : y < P) (odd : Bool) : Qp y odd < 115792089237316195423570985008687907853269984665640564039457584007913129639936 := by
 unfold Qp; rw [Zw] at hy; cases odd <;> simp <;> omega
theorem qaE (l : List UInt8) (h : l.length = 32) : qC l < 115792089237316195423570985008687907853269984665640564039457584007913129639936 := by
 have := qb9 l
 rw [h] at this
 exact zl this (by decide)
theorem qoR (p : Pt) : y8 p < 115792089237316195423570985008687907853269984665640564039457584007913129639936 := by
 unfold y8
 exact qkO (qK _ _) _
section
attribute [local irreducible] qb nL pA qP jb pL bA bL qX Qh jg jx jh Jq
theorem qkr (b m : Nat) (msg : ByteArray) (L : List UInt8) (hL : L.length = 64) (hmsg : msg.size ≤ maxLen) (hd : jg m = true) (sA gA : Addr) (w : World) (hG : Qq w) (hK : j9 w) (hO : QT w) (h7 : 13 ≤ b) (hN : jp w b)
  (hS : ZO w 2 sA) (hGs : ZO w 4 gA) (hgb : gA.block ≠ b) :
  Calls Tryz.prog 75 #[.agg (jx b m (Qj m)), .string msg, .agg (L.map cv).toArray] w fun e w' => e = .returned (yB sA gA m msg L) ∧ qG b w w' ∧ jp w' b := by
 have hzc := qih
 have hz4 := qld
 have HG := qa hG
 have HK := qa hK
 have HO := qa hO
 have HN := qa hN
 have HSs := qa hS
 have HGs := qa hGs
 have Hm := qa hmsg
 have HL := qa hL
 have HF : Hid (∀ i, i < 4 → (Qj m i).Ok) := fun i hi => qqX m hd i hi
 have lb := hN.lt
 clear hG hK hO hN hS hGs hmsg hL hd
 obtain ⟨F, EF⟩ := zx (Qj m)
 rw [← EF.o] at HF ⊢
 obtain ⟨M, EM⟩ := zx ((L.map cv).toArray)
 rw [← EM.o]
 obtain ⟨R, ER⟩ := zx (qC (L.take 32))
 obtain ⟨s, ES⟩ := zx (qC (L.drop 32))
 have l1 : (L.take 32).length = 32 := by rw [Zh, HL.o]; rfl
 have l2 : (L.drop 32).length = 32 := by rw [Zi, HL.o]
 have EB1 : Hid (((L.take 32).map cv).toArray = bA R) := by show _ = _; rw [ER.o]; exact qeR _ l1
 have EB2 : Hid (((L.drop 32).map cv).toArray = bA s) := by show _ = _; rw [ES.o]; exact qeR _ l2
 have HR : Hid (R < 115792089237316195423570985008687907853269984665640564039457584007913129639936) := by rw [ER.o]; exact qaE _ l1
 have Hs : Hid (s < 115792089237316195423570985008687907853269984665640564039457584007913129639936) := by rw [ES.o]; exact qaE _ l2
 have ELe : Hid (L.take 32 = qI R 32) := by show _ = _; rw [ER.o]; exact (qaR _ l1).symm
 obtain ⟨M1, EM1⟩ := zx ((L.take 32).map cv)
 obtain ⟨M2, EM2⟩ := zx ((L.drop 32).map cv)
 have HM1 : Hid ((Tryz.prog.info? 62).map (·.size) = some M1.length) := by show _ = _; rw [kU, EM1.o, zv, l1]
 have HM2 : Hid ((Tryz.prog.info? 61).map (·.size) = some M2.length) := by show _ = _; rw [qf0, EM2.o, zv, l2]
 have EB1' : M1.toArray = bA R := by rw [EM1.o]; exact EB1.o
 have EB2' : M2.toArray = bA s := by rw [EM2.o]; exact EB2.o
 clear l1 l2
 go_enter Tryz.func75, Tryz.ntmps75
 go_upto_region 1 with fail
 generalize hW0 : World.alloc _ _ = W0
 have RP : Hid (qi W0 w.heap.size (jx b m F) 153) := by rw [← hW0]; exact heap_alloc2_old _ _ _
 have RL : Hid (qi W0 (w.heap.size + 1) ((L.map cv).toArray) 102) := by rw [← hW0, ← EM.o]; exact Zd _ _ _
 have B0 : Hid (zB w W0) := by rw [← hW0]; show Below _ _ _; go_grown
 clear hW0
 obtain ⟨hr1, hr2⟩ := qnJ L HL.o RL.o
 rw [← EM1.o] at hr1
 rw [← EM2.o] at hr2
 have Hr1 := qa hr1
 have Hr2 := qa hr2
 clear hr1 hr2
 have hs1 := qj2
 have hs2 := qfs
 have ha1 := qg8
 have ha2 := qsH
 go_upto_region 2 with (first
  | (refine zG (by rfl) 62 (.tmp 12) (by rfl) (w.heap.size + 1) 0 (by rfl) M1 _ Hr1.o ZH rfl HM1.o ?_; rw [EB1'])
  | (refine qB 62 (.tmp 7) (.tmp 13) W0.heap.size (bA R) (za _ _) (Jp _) (qiC _ _) (qiP _) ?_))
 try rw [qH]
 obtain ⟨g7, hg7⟩ := zy W0.heap.size
 generalize hW1 : World.setRow _ _ _ = W1
 have hg71 : w.heap.size + 1 < g7 := by rw [hg7]; exact qh RL.o
 have K1 : Hid (zB W0 W1) := by rw [← hW1]; exact ze ((zJ _ _).alloc (zm _) _) (zm _) _
 have R7 : Hid (qi W1 g7 (bA R) 62) := by rw [← hW1, hg7]; exact zd _ _ _ _ _ _ (za _ _)
 have RP := qa (qk RP.o K1.o)
 have Hr2 := qa (q8 Hr2.o K1.o (qh RL.o))
 have B1 : Hid (zB w W1) := B0.o.trans (K1.o.mono B0.o.size)
 rw [← hg7]
 clear hW1 hg7 K1 Hr1 B0 RL
 go_wp2_with (first
  | (refine zG (by rfl) 61 (.tmp 15) (by rfl) (w.heap.size + 1) 32 (by rfl) M2 _ Hr2.o kL rfl HM2.o ?_; rw [EB2']))
 refine (qmS s Hs.o W1).mono ?_
 rintro e W2 ⟨rfl, hB⟩
 have RP := qa (qk RP.o hB)
 have R7 := qa (qk R7.o hB)
 have B2 := qq B1 hB
 clear hB B1 Hr2 hs1 hs2 ha1 ha2
 go_upto_region 3 with (first
  | (refine qB 60 (.tmp 8) (.tmp 17) W2.heap.size (qb s) (za _ _) (qdE _) (n4W _ _) (qY _) ?_))
 try rw [qH]
 obtain ⟨g8, hg8⟩ := zy W2.heap.size
 generalize hW3 : World.setRow _ _ _ = W3
 have hg87 : g7 < g8 := by rw [hg8]; exact qh R7.o
 have K3 : Hid (zB W2 W3) := by rw [← hW3]; exact ze ((zJ _ _).alloc (zm _) _) (zm _) _
 have R8 : Hid (qi W3 g8 (qb s) 60) := by rw [← hW3, hg8]; exact zd _ _ _ _ _ _ (za _ _)
 have RP := qa (qk RP.o K3.o)
 have R7 := qa (qk R7.o K3.o)
 have B3 : Hid (zB w W3) := B2.o.trans (K3.o.mono B2.o.size)
 rw [← hg8]
 clear hW3 hg8 K3 B2
 go_wp2_with (first
  | (refine zL 60 (.tmp 8) g8 (qb s) R8.o Jr (qdE _) ?_))
 refine (isA s Hs.o W3 (HO.o.below B3.o HO.o.lt)).mono ?_
 rintro e W4 ⟨rfl, hB⟩
 have RP := qa (qk RP.o hB)
 have R7 := qa (qk R7.o hB)
 have R8 := qa (qk R8.o hB)
 have B4 := qq B3 hB
 clear hB B3
 by_cases hlt : s < jf
 case neg =>
  rw [zD hlt]
  have cS := (HSs.o.below B4.o).c
  have EE : Hid (yB sA gA m msg L = qQ qtW (qU sA)) := by show _ = _; unfold yB; rw [← ES.o, if_neg hlt]
  clear hlt
  have hbA := qgy qtW sA
  go_wp2_with (first
   | (refine qab (by rfl) 173 _ (by rfl) #[.string qtW, qU sA] [(0, .string qtW), (1, qU sA)] (by kernel_rfl) hbA ?_))
  go_returns
  exact ⟨by rw [EE.o]; rfl, qG.of B4.o, HN.o.keep (B4.o.block b lb)⟩
 case pos =>
 rw [zN hlt]
 have Hlt := qa hlt
 clear hlt
 have r1 := qa (qtA RP.o)
 have bS : Hid ((Tryz.prog.info? 62).map (·.size) = some (bL m).length) := by show _ = _; rw [kU]; simp [bL, jM]
 have bLA : (bL m).toArray = bA m := qt9 m
 go_wp2_with (first
  | (refine zL 62 (.tmp 7) g7 (bA R) R7.o ZH (Jp _) ?_)
  | (refine zG (by rfl) 62 (.tmp 25) (by rfl) w.heap.size 1 (by rfl) (bL m) _ r1.o ZH rfl bS.o ?_))
 refine (qi6 R m msg Hm.o W4 (HK.o.below B4.o HK.o.lt) (HO.o.below B4.o HO.o.lt)).mono ?_
 rintro e W4b ⟨rfl, hB⟩
 have RP := qa (qk RP.o hB)
 have R7 := qa (qk R7.o hB)
 have R8 := qa (qk R8.o hB)
 have B4b := qq B4 hB
 clear hB B4 r1 bS bLA
 obtain ⟨k, Ek⟩ := zx (Yp m msg L)
 rw [show qC (jD (qI R 32 ++ (qI m 32 ++ bytesOf msg))) % jf = k by rw [Ek.o]; unfold Yp; rw [ELe.o]]
 go_upto_region 6 with (first
  | (refine qB 60 (.tmp 9) (.tmp 28) W4b.heap.size (qb k) (za _ _) (qdE _) (n4W _ _) (qY _) ?_))
 try rw [qH]
 obtain ⟨g9, hg9⟩ := zy W4b.heap.size
 generalize hW5 : World.setRow _ _ _ = W5
 have hg98 : g8 < g9 := by rw [hg9]; exact qh R8.o
 have K5 : Hid (zB W4b W5) := by rw [← hW5]; exact ze ((zJ _ _).alloc (zm _) _) (zm _) _
 have R9 : Hid (qi W5 g9 (qb k) 60) := by rw [← hW5, hg9]; exact zd _ _ _ _ _ _ (za _ _)
 have RP := qa (qk RP.o K5.o)
 have R7 := qa (qk R7.o K5.o)
 have R8 := qa (qk R8.o K5.o)
 have B5 : Hid (zB w W5) := B4b.o.trans (K5.o.mono B4b.o.size)
 rw [← hg9]
 clear hW5 hg9 K5 B4b
 have G5 := qa (HG.o.keep B5.o)
 have A5 := qa (HN.o.keep (B5.o.block b lb))
 have S5 := qa (HGs.o.below B5.o)
 have X5 := qa (qG.of (b := b) B5.o)
 have l3 := qh RP.o
 have l8 := qh R8.o
 have l9 := qh R9.o
 have l7 := qh R7.o
 clear HG HN HK HO HSs
 have sat6 : ∀ {V : World}, qG b W5 V → V.cell? ⟨w.heap.size, 0, none⟩ = some (zp b 0) ∧ V.rangeAt g8 0 (nL s) ∧ V.rangeAt w.heap.size 33 (jb F 4) ∧ V.rangeAt g9 0 (nL k) := fun hx =>
  ⟨(zo (hx.block _ l3 (by show w.heap.size ≠ b; omega))).trans (qo5 RP.o), qcb (Qu R8.o) hx l8 (by omega), qcb (qkD RP.o) hx l3 (by omega), qcb (Qu R9.o) hx l9 (by omega)⟩
 have satset6 : ∀ {V : World} {g : Nat} {cs : Array Value}, qG b W5 V → W5.heap.size ≤ g → (V.setRow g cs).cell? ⟨w.heap.size, 0, none⟩ = some (zp b 0) ∧ (V.setRow g cs).rangeAt g8 0 (nL s) ∧ (V.setRow g cs).rangeAt w.heap.size 33 (jb F 4) ∧ (V.setRow g cs).rangeAt g9 0 (nL k) := fun hx hg =>
  ⟨(zo (zc _ _ _ _ (by show w.heap.size ≠ _; omega))).trans (sat6 hx).1, qF (sat6 hx).2.1 (by omega), qF (sat6 hx).2.2.1 (by omega), qF (sat6 hx).2.2.2 (by omega)⟩
 go_cut [10] from 29 to 38 (fun s' wx => ∃ g, s' = zp g 0 ∧ Hid (wx.heap[g]? = some (.cells (pA (ZI (qV (qR qX) s 64) (Qy (qV F k 64)))) 82)) ∧ Hid (qG b W5 wx ∧ jp wx b) ∧ Hid (W5.heap.size ≤ g))
 case first =>
  refine zM (S := fun w' => w'.cell? ⟨w.heap.size, 0, none⟩ = some (zp b 0) ∧ w'.rangeAt g8 0 (nL s) ∧ w'.rangeAt w.heap.size 33 (jb F 4) ∧ w'.rangeAt g9 0 (nL k)) (by kernel_rfl) ⟨qo5 RP.o, Qu R8.o, qkD RP.o, Qu R9.o⟩ (fun hHeld => ?_)
  have KV1 : Hid (qG b W5 W5.drew ∧ jp W5.drew b) := ⟨(qG.of (zJ _ _)).drew, A5.o.keep rfl⟩
  obtain ⟨V1, hV1⟩ := zy W5.drew
  rw [← hV1] at hHeld KV1 ⊢
  clear hV1
  refine zU 0 ⟨some 29, .fieldAddr 153 (.tmp 3) 0, 0, "public.go:40", #[], none⟩ (zp w.heap.size 0) ?_
  simp only [qd]
  refine zT 1 ⟨some 30, .load 58 (.tmp 29), 58, "public.go:40", #[ql 0], none⟩ (zp b 0) (Or.inl ⟨by rfl, fun v h => qfW _ rfl _ rfl _ v h.1⟩) ?_
  simp only [qd]
  refine zT 2 ⟨some 31, .load 60 (.tmp 8), 60, "public.go:40", #[], none⟩ (.agg (qb s)) (qt8 (by rfl) _ rfl g8 0 s rfl (fun w h => h.2.1)) ?_
  simp only [qd]
  refine zU 4 ⟨some 33, .fieldAddr 153 (.tmp 3) 2, 0, "public.go:40", #[], none⟩ (zp w.heap.size 33) ?_
  simp only [qd]
  refine zT 5 ⟨some 34, .load 84 (.tmp 33), 84, "public.go:40", #[ql 4], none⟩ (.agg (qP F 4)) (quR (by rfl) _ rfl (w.heap.size) 33 F rfl (fun w h => h.2.2.1)) ?_
  simp only [qd]
  refine zT 6 ⟨some 35, .load 60 (.tmp 9), 60, "public.go:40", #[], none⟩ (.agg (qb k)) (qt8 (by rfl) _ rfl g9 0 k rfl (fun w h => h.2.2.2)) ?_
  simp only [qd]
  refine zW [3, 10] ?_
  refine zK yaF (fun K hK => ?_) ?_
  ·
   refine YS (by rfl) _ _ (qd0 _ _ rfl (zp b 0) (.agg (qb s)) rfl rfl V1) _ (fun V => qG b V1 V ∧ ZU V b) (qcE b s V1 (G5.o.keepX KV1.o.1 h7) h7 KV1.o.2) (fun V2 HBx => ?_)
   have KV2 : Hid (qG b W5 V2 ∧ jp V2 b) := ⟨KV1.o.1.trans HBx.1, Or.inr HBx.2⟩
   clear HBx
   refine hK.o _ _ (sat6 KV2.o.1) fun hHeld => ?_
   try simp only [qd]
   refine zW [7, 10] ?_
   refine zK yaE (fun K hK => ?_) ?_
   ·
    refine zE (qaJ _ _ rfl (.agg (qP F 4)) (.agg (qb k)) rfl rfl V2) (qbQ F HF.o k V2 (G5.o.keepX KV2.o.1 h7).gl) fun V3 HBx => ?_
    have KV3 : Hid (qG b W5 V3 ∧ jp V3 b) := ⟨KV2.o.1.trans (qG.of HBx), KV2.o.2.keep (HBx.block b KV2.o.2.lt)⟩
    clear HBx
    refine hK.o _ _ (sat6 KV3.o.1) fun hHeld => ?_
    try simp only [qd]
    refine zW [8, 10] ?_
    refine zK yaD (fun K hK => ?_) ?_
    ·
     refine zE (qb8 _ rfl (.agg (pA (qV F k 64))) rfl V3) (qii (qV F k 64) (JR _ k 64) V3) fun V4 HBx => ?_
     have KV4 : Hid (qG b W5 V4 ∧ jp V4 b) := ⟨KV3.o.1.trans (qG.of HBx), KV3.o.2.keep (HBx.block b KV3.o.2.lt)⟩
     clear HBx
     refine hK.o _ _ (sat6 KV4.o.1) fun hHeld => ?_
     try simp only [qd]
     refine zW [9, 10] ?_
     refine zK yaC (fun K hK => ?_) ?_
     ·
      refine zE (qaD _ _ rfl (.agg (pA (qV (qR qX) s 64))) (.agg (pA (Qy (qV F k 64)))) rfl rfl V4) (qdf (qV (qR qX) s 64) (Qy (qV F k 64)) (JR _ s 64) (qcr (JR _ k 64)) V4 (G5.o.keepX KV4.o.1 h7).gl) fun V5 HBx => ?_
      have KV5 : Hid (qG b W5 V5 ∧ jp V5 b) := ⟨KV4.o.1.trans (qG.of HBx), KV4.o.2.keep (HBx.block b KV4.o.2.lt)⟩
      clear HBx
      refine hK.o _ _ (sat6 KV5.o.1) fun hHeld => ?_
      try simp only [qd]
      refine zR 10 qbb fun K hK => ?_
      refine zA (qaI rfl V5) ?_
      obtain ⟨gg6, hgg6⟩ := zy V5.heap.size
      have ZN : Hid ((V5.alloc (.cells (pA p0) 82)).heap[gg6]? = some (.cells (pA p0) 82)) := by rw [hgg6]; exact za _ _
      have KV6 : Hid (qG b W5 (V5.alloc (.cells (pA p0) 82)) ∧ jp (V5.alloc (.cells (pA p0) 82)) b) := ⟨KV5.o.1.trans (qG.of ((zJ _ _).alloc (zm _) _)), KV5.o.2.keep (zb _ _ KV5.o.2.lt)⟩
      have GG : Hid (W5.heap.size ≤ gg6) := by rw [hgg6]; exact KV5.o.1.size
      rw [← hgg6]
      obtain ⟨V6, hV6⟩ := zy (V5.alloc (.cells (pA p0) 82))
      rw [← hV6] at ZN KV6 ⊢
      clear hV6 hgg6
      refine hK.o _ _ (sat6 KV6.o.1) fun hHeld => ?_
      try simp only [qd]
      refine zR 11 qa5 fun K hK => ?_
      refine zQ 82 (.tmp 10) (.tmp 38) (gg6) (pA (ZI (qV (qR qX) s 64) (Qy (qV F k 64)))) ZN.o (jO _) (ZK _ _) (QJ _) ?_
      rw [qH]
      refine hK.o _ _ (satset6 KV6.o.1 GG.o) fun hHeld => ?_
      try simp only [qd]
      refine zi (by kernel_rfl) ?_ _
      go_wp2_with fail
      go_meet
      case rel => exact ⟨gg6, rfl, qa (zd _ _ _ _ _ _ ZN.o), qa ⟨KV6.o.1.setRow GG.o _, KV6.o.2.keep (zc _ _ _ _ (by have := GG.o; omega))⟩, GG⟩
     refine zK qbb (fun K hK => ?_) ?_
     ·
      refine zA (qaI rfl V4) ?_
      obtain ⟨gg8, hgg8⟩ := zy V4.heap.size
      have ZN : Hid ((V4.alloc (.cells (pA p0) 82)).heap[gg8]? = some (.cells (pA p0) 82)) := by rw [hgg8]; exact za _ _
      have KV8 : Hid (qG b W5 (V4.alloc (.cells (pA p0) 82)) ∧ jp (V4.alloc (.cells (pA p0) 82)) b) := ⟨KV4.o.1.trans (qG.of ((zJ _ _).alloc (zm _) _)), KV4.o.2.keep (zb _ _ KV4.o.2.lt)⟩
      have GG : Hid (W5.heap.size ≤ gg8) := by rw [hgg8]; exact KV4.o.1.size
      rw [← hgg8]
      obtain ⟨V8, hV8⟩ := zy (V4.alloc (.cells (pA p0) 82))
      rw [← hV8] at ZN KV8 ⊢
      clear hV8 hgg8
      refine hK.o _ _ (sat6 KV8.o.1) fun hHeld => ?_
      try simp only [qd]
      refine zR 9 yaC fun K hK => ?_
      refine zE (qaD _ _ rfl (.agg (pA (qV (qR qX) s 64))) (.agg (pA (Qy (qV F k 64)))) rfl rfl V8) (qdf (qV (qR qX) s 64) (Qy (qV F k 64)) (JR _ s 64) (qcr (JR _ k 64)) V8 (G5.o.keepX KV8.o.1 h7).gl) fun V9 HBx => ?_
      have KV9 : Hid (qG b W5 V9 ∧ jp V9 b) := ⟨KV8.o.1.trans (qG.of HBx), KV8.o.2.keep (HBx.block b KV8.o.2.lt)⟩
      have ZN : Hid (V9.heap[gg8]? = _) := qk ZN.o HBx
      clear HBx
      refine hK.o _ _ (sat6 KV9.o.1) fun hHeld => ?_
      try simp only [qd]
      refine zR 11 qa5 fun K hK => ?_
      refine zQ 82 (.tmp 10) (.tmp 38) (gg8) (pA (ZI (qV (qR qX) s 64) (Qy (qV F k 64)))) ZN.o (jO _) (ZK _ _) (QJ _) ?_
      rw [qH]
      refine hK.o _ _ (satset6 KV9.o.1 GG.o) fun hHeld => ?_
      try simp only [qd]
      refine zi (by kernel_rfl) ?_ _
      go_wp2_with fail
      go_meet
      case rel => exact ⟨gg8, rfl, qa (zd _ _ _ _ _ _ ZN.o), qa ⟨KV9.o.1.setRow GG.o _, KV9.o.2.keep (zc _ _ _ _ (by have := GG.o; omega))⟩, GG⟩
     exact zu
    refine zK qbb (fun K hK => ?_) ?_
    ·
     refine zA (qaI rfl V3) ?_
     obtain ⟨gg11, hgg11⟩ := zy V3.heap.size
     have ZN : Hid ((V3.alloc (.cells (pA p0) 82)).heap[gg11]? = some (.cells (pA p0) 82)) := by rw [hgg11]; exact za _ _
     have KV11 : Hid (qG b W5 (V3.alloc (.cells (pA p0) 82)) ∧ jp (V3.alloc (.cells (pA p0) 82)) b) := ⟨KV3.o.1.trans (qG.of ((zJ _ _).alloc (zm _) _)), KV3.o.2.keep (zb _ _ KV3.o.2.lt)⟩
     have GG : Hid (W5.heap.size ≤ gg11) := by rw [hgg11]; exact KV3.o.1.size
     rw [← hgg11]
     obtain ⟨V11, hV11⟩ := zy (V3.alloc (.cells (pA p0) 82))
     rw [← hV11] at ZN KV11 ⊢
     clear hV11 hgg11
     refine hK.o _ _ (sat6 KV11.o.1) fun hHeld => ?_
     try simp only [qd]
     refine zR 8 yaD fun K hK => ?_
     refine zE (qb8 _ rfl (.agg (pA (qV F k 64))) rfl V11) (qii (qV F k 64) (JR _ k 64) V11) fun V12 HBx => ?_
     have KV12 : Hid (qG b W5 V12 ∧ jp V12 b) := ⟨KV11.o.1.trans (qG.of HBx), KV11.o.2.keep (HBx.block b KV11.o.2.lt)⟩
     have ZN : Hid (V12.heap[gg11]? = _) := qk ZN.o HBx
     clear HBx
     refine hK.o _ _ (sat6 KV12.o.1) fun hHeld => ?_
     try simp only [qd]
     refine zR 9 yaC fun K hK => ?_
     refine zE (qaD _ _ rfl (.agg (pA (qV (qR qX) s 64))) (.agg (pA (Qy (qV F k 64)))) rfl rfl V12) (qdf (qV (qR qX) s 64) (Qy (qV F k 64)) (JR _ s 64) (qcr (JR _ k 64)) V12 (G5.o.keepX KV12.o.1 h7).gl) fun V13 HBx => ?_
     have KV13 : Hid (qG b W5 V13 ∧ jp V13 b) := ⟨KV12.o.1.trans (qG.of HBx), KV12.o.2.keep (HBx.block b KV12.o.2.lt)⟩
     have ZN : Hid (V13.heap[gg11]? = _) := qk ZN.o HBx
     clear HBx
     refine hK.o _ _ (sat6 KV13.o.1) fun hHeld => ?_
     try simp only [qd]
     refine zR 11 qa5 fun K hK => ?_
     refine zQ 82 (.tmp 10) (.tmp 38) (gg11) (pA (ZI (qV (qR qX) s 64) (Qy (qV F k 64)))) ZN.o (jO _) (ZK _ _) (QJ _) ?_
     rw [qH]
     refine hK.o _ _ (satset6 KV13.o.1 GG.o) fun hHeld => ?_
     try simp only [qd]
     refine zi (by kernel_rfl) ?_ _
     go_wp2_with fail
     go_meet
     case rel => exact ⟨gg11, rfl, qa (zd _ _ _ _ _ _ ZN.o), qa ⟨KV13.o.1.setRow GG.o _, KV13.o.2.keep (zc _ _ _ _ (by have := GG.o; omega))⟩, GG⟩
    exact zu
   refine zK qbb (fun K hK => ?_) ?_
   ·
    refine zA (qaI rfl V2) ?_
    obtain ⟨gg15, hgg15⟩ := zy V2.heap.size
    have ZN : Hid ((V2.alloc (.cells (pA p0) 82)).heap[gg15]? = some (.cells (pA p0) 82)) := by rw [hgg15]; exact za _ _
    have KV15 : Hid (qG b W5 (V2.alloc (.cells (pA p0) 82)) ∧ jp (V2.alloc (.cells (pA p0) 82)) b) := ⟨KV2.o.1.trans (qG.of ((zJ _ _).alloc (zm _) _)), KV2.o.2.keep (zb _ _ KV2.o.2.lt)⟩
    have GG : Hid (W5.heap.size ≤ gg15) := by rw [hgg15]; exact KV2.o.1.size
    rw [← hgg15]
    obtain ⟨V15, hV15⟩ := zy (V2.alloc (.cells (pA p0) 82))
    rw [← hV15] at ZN KV15 ⊢
    clear hV15 hgg15
    refine hK.o _ _ (sat6 KV15.o.1) fun hHeld => ?_
    try simp only [qd]
    refine zR 7 yaE fun K hK => ?_
    refine zE (qaJ _ _ rfl (.agg (qP F 4)) (.agg (qb k)) rfl rfl V15) (qbQ F HF.o k V15 (G5.o.keepX KV15.o.1 h7).gl) fun V16 HBx => ?_
    have KV16 : Hid (qG b W5 V16 ∧ jp V16 b) := ⟨KV15.o.1.trans (qG.of HBx), KV15.o.2.keep (HBx.block b KV15.o.2.lt)⟩
    have ZN : Hid (V16.heap[gg15]? = _) := qk ZN.o HBx
    clear HBx
    refine hK.o _ _ (sat6 KV16.o.1) fun hHeld => ?_
    try simp only [qd]
    refine zR 8 yaD fun K hK => ?_
    refine zE (qb8 _ rfl (.agg (pA (qV F k 64))) rfl V16) (qii (qV F k 64) (JR _ k 64) V16) fun V17 HBx => ?_
    have KV17 : Hid (qG b W5 V17 ∧ jp V17 b) := ⟨KV16.o.1.trans (qG.of HBx), KV16.o.2.keep (HBx.block b KV16.o.2.lt)⟩
    have ZN : Hid (V17.heap[gg15]? = _) := qk ZN.o HBx
    clear HBx
    refine hK.o _ _ (sat6 KV17.o.1) fun hHeld => ?_
    try simp only [qd]
    refine zR 9 yaC fun K hK => ?_
    refine zE (qaD _ _ rfl (.agg (pA (qV (qR qX) s 64))) (.agg (pA (Qy (qV F k 64)))) rfl rfl V17) (qdf (qV (qR qX) s 64) (Qy (qV F k 64)) (JR _ s 64) (qcr (JR _ k 64)) V17 (G5.o.keepX KV17.o.1 h7).gl) fun V18 HBx => ?_
    have KV18 : Hid (qG b W5 V18 ∧ jp V18 b) := ⟨KV17.o.1.trans (qG.of HBx), KV17.o.2.keep (HBx.block b KV17.o.2.lt)⟩
    have ZN : Hid (V18.heap[gg15]? = _) := qk ZN.o HBx
    clear HBx
    refine hK.o _ _ (sat6 KV18.o.1) fun hHeld => ?_
    try simp only [qd]
    refine zR 11 qa5 fun K hK => ?_
    refine zQ 82 (.tmp 10) (.tmp 38) (gg15) (pA (ZI (qV (qR qX) s 64) (Qy (qV F k 64)))) ZN.o (jO _) (ZK _ _) (QJ _) ?_
    rw [qH]
    refine hK.o _ _ (satset6 KV18.o.1 GG.o) fun hHeld => ?_
    try simp only [qd]
    refine zi (by kernel_rfl) ?_ _
    go_wp2_with fail
    go_meet
    case rel => exact ⟨gg15, rfl, qa (zd _ _ _ _ _ _ ZN.o), qa ⟨KV18.o.1.setRow GG.o _, KV18.o.2.keep (zc _ _ _ _ (by have := GG.o; omega))⟩, GG⟩
   exact zu
  refine zK qbb (fun K hK => ?_) ?_
  ·
   refine zA (qaI rfl V1) ?_
   obtain ⟨gg20, hgg20⟩ := zy V1.heap.size
   have ZN : Hid ((V1.alloc (.cells (pA p0) 82)).heap[gg20]? = some (.cells (pA p0) 82)) := by rw [hgg20]; exact za _ _
   have KV20 : Hid (qG b W5 (V1.alloc (.cells (pA p0) 82)) ∧ jp (V1.alloc (.cells (pA p0) 82)) b) := ⟨KV1.o.1.trans (qG.of ((zJ _ _).alloc (zm _) _)), KV1.o.2.keep (zb _ _ KV1.o.2.lt)⟩
   have GG : Hid (W5.heap.size ≤ gg20) := by rw [hgg20]; exact KV1.o.1.size
   rw [← hgg20]
   obtain ⟨V20, hV20⟩ := zy (V1.alloc (.cells (pA p0) 82))
   rw [← hV20] at ZN KV20 ⊢
   clear hV20 hgg20
   refine hK.o _ _ (sat6 KV20.o.1) fun hHeld => ?_
   try simp only [qd]
   refine zR 3 yaF fun K hK => ?_
   refine YS (by rfl) _ _ (qd0 _ _ rfl (zp b 0) (.agg (qb s)) rfl rfl V20) _ (fun V => qG b V20 V ∧ ZU V b) (qcE b s V20 (G5.o.keepX KV20.o.1 h7) h7 KV20.o.2) (fun V21 HBx => ?_)
   have KV21 : Hid (qG b W5 V21 ∧ jp V21 b) := ⟨KV20.o.1.trans HBx.1, Or.inr HBx.2⟩
   have ZN : Hid (V21.heap[gg20]? = _) := (HBx.1.block _ (qh ZN.o) (by have := GG.o; omega)).trans ZN.o
   clear HBx
   refine hK.o _ _ (sat6 KV21.o.1) fun hHeld => ?_
   try simp only [qd]
   refine zR 7 yaE fun K hK => ?_
   refine zE (qaJ _ _ rfl (.agg (qP F 4)) (.agg (qb k)) rfl rfl V21) (qbQ F HF.o k V21 (G5.o.keepX KV21.o.1 h7).gl) fun V22 HBx => ?_
   have KV22 : Hid (qG b W5 V22 ∧ jp V22 b) := ⟨KV21.o.1.trans (qG.of HBx), KV21.o.2.keep (HBx.block b KV21.o.2.lt)⟩
   have ZN : Hid (V22.heap[gg20]? = _) := qk ZN.o HBx
   clear HBx
   refine hK.o _ _ (sat6 KV22.o.1) fun hHeld => ?_
   try simp only [qd]
   refine zR 8 yaD fun K hK => ?_
   refine zE (qb8 _ rfl (.agg (pA (qV F k 64))) rfl V22) (qii (qV F k 64) (JR _ k 64) V22) fun V23 HBx => ?_
   have KV23 : Hid (qG b W5 V23 ∧ jp V23 b) := ⟨KV22.o.1.trans (qG.of HBx), KV22.o.2.keep (HBx.block b KV22.o.2.lt)⟩
   have ZN : Hid (V23.heap[gg20]? = _) := qk ZN.o HBx
   clear HBx
   refine hK.o _ _ (sat6 KV23.o.1) fun hHeld => ?_
   try simp only [qd]
   refine zR 9 yaC fun K hK => ?_
   refine zE (qaD _ _ rfl (.agg (pA (qV (qR qX) s 64))) (.agg (pA (Qy (qV F k 64)))) rfl rfl V23) (qdf (qV (qR qX) s 64) (Qy (qV F k 64)) (JR _ s 64) (qcr (JR _ k 64)) V23 (G5.o.keepX KV23.o.1 h7).gl) fun V24 HBx => ?_
   have KV24 : Hid (qG b W5 V24 ∧ jp V24 b) := ⟨KV23.o.1.trans (qG.of HBx), KV23.o.2.keep (HBx.block b KV23.o.2.lt)⟩
   have ZN : Hid (V24.heap[gg20]? = _) := qk ZN.o HBx
   clear HBx
   refine hK.o _ _ (sat6 KV24.o.1) fun hHeld => ?_
   try simp only [qd]
   refine zR 11 qa5 fun K hK => ?_
   refine zQ 82 (.tmp 10) (.tmp 38) (gg20) (pA (ZI (qV (qR qX) s 64) (Qy (qV F k 64)))) ZN.o (jO _) (ZK _ _) (QJ _) ?_
   rw [qH]
   refine hK.o _ _ (satset6 KV24.o.1 GG.o) fun hHeld => ?_
   try simp only [qd]
   refine zi (by kernel_rfl) ?_ _
   go_wp2_with fail
   go_meet
   case rel => exact ⟨gg20, rfl, qa (zd _ _ _ _ _ _ ZN.o), qa ⟨KV24.o.1.setRow GG.o _, KV24.o.2.keep (zc _ _ _ _ (by have := GG.o; omega))⟩, GG⟩
  exact zu
 case rest =>
  obtain ⟨g10, rfl, R10, X6, HGe⟩ := hcut
  obtain ⟨W6, hW6⟩ := zy wc
  rw [← hW6] at R10 X6 ⊢
  clear hW6
  have R7 : Hid (qi W6 g7 (bA R) 62) := (X6.o.1.block _ l7 (by omega)).trans R7.o
  have S6 := qa (S5.o.bex X6.o.1 (by omega) hgb)
  have X6b := qa (X5.o.trans X6.o.1)
  have A6 := qa X6.o.2
  clear X6 sat6 satset6 R8 R9 RP S5 X5 A5 G5
  obtain ⟨q, Eq⟩ := zx (ZI (qV (qR qX) s 64) (Qy (qV F k 64)))
  have Hq : Hid q.Ok := by rw [Eq.o]; exact qpZ _ _
  rw [← Eq.o] at R10
  obtain ⟨c, Ec⟩ := zx (y8 q)
  have Hc : Hid (c < 115792089237316195423570985008687907853269984665640564039457584007913129639936) := by rw [Ec.o]; exact qoR _
  have EC : Hid (c = Yi m msg L) := by show _ = _; rw [Ec.o, Eq.o, ES.o, EF.o, Ek.o]; rfl
  go_upto_region 7 with fail
  refine zM (S := fun w' => w'.rangeAt g10 0 (pL q) ∧ w'.rangeAt g7 0 (bL R)) (by kernel_rfl) ⟨qdw R10.o, yv R7.o⟩ (fun hHeld => ?_)
  have KV1 : Hid (zB W6 W6.drew) := (zJ _ _).drew
  obtain ⟨V1, hV1⟩ := zy W6.drew
  rw [← hV1] at hHeld KV1 ⊢
  clear hV1
  refine zT 0 ⟨some 39, .load 82 (.tmp 10), 82, "public.go:41", #[], none⟩ (.agg (pA q)) (qt5 (by rfl) _ rfl g10 0 q rfl (fun w h => h.1)) ?_
  simp only [qd]
  refine zT 2 ⟨some 41, .load 62 (.tmp 7), 62, "public.go:41", #[], none⟩ (.agg (bA R)) (qdY (by rfl) _ rfl g7 0 R rfl (fun w h => h.2)) ?_
  simp only [qd]
  refine zR 1 ⟨some 40, .call ⟨.value (.func 58), #[.tmp 39], #[82]⟩, 62, "public.go:41", #[ql 0], none⟩ fun K hK => ?_
  refine zE (qjv _ rfl (.agg (pA q)) rfl V1) (qru q Hq.o c Ec.o V1) fun V2 HBx => ?_
  have KV2 := qq KV1 HBx
  clear HBx
  refine hK.o _ _ (⟨q8 (qdw R10.o) KV2.o (qh R10.o), q8 (yv R7.o) KV2.o (qh R7.o)⟩) fun hHeld => ?_
  try simp only [qd]
  refine zT 3 ⟨some 42, .binOp .neq 62 (.tmp 40) (.tmp 41) 62, 4, "public.go:41", #[ql 1, ql 2], none⟩ (.bool (!decide (c = R))) (Or.inl ⟨by rfl, fun v _ => qqU _ _ rfl c R Hc.o HR.o rfl rfl v⟩) ?_
  simp only [qd]
  refine zi (by kernel_rfl) ?_ _
  have KF : Hid (zB W6 V2) := KV2
  obtain ⟨W7, hW7⟩ := zy V2
  rw [← hW7] at KF ⊢
  clear hW7
  have X7 := qa (X6b.o.trans (qG.of KF.o))
  have A7 := qa (A6.o.keep (KF.o.block b A6.o.lt))
  by_cases hc : c = R
  ·
   rw [zN hc]
   have EE : Hid (yB sA gA m msg L = .nilIface) := by show _ = _; unfold yB; rw [← ES.o, if_pos Hlt.o, ← EC.o, ← ER.o, if_pos hc]
   clear hc
   go_wp2_with fail
   go_returns
   exact ⟨by rw [EE.o]; rfl, X7.o, A7.o⟩
  ·
   rw [zD hc]
   have EE : Hid (yB sA gA m msg L = qQ qmM (qU gA)) := by show _ = _; unfold yB; rw [← ES.o, if_pos Hlt.o, ← EC.o, ← ER.o, if_neg hc]
   clear hc
   have cG := (S6.o.below KF.o).c
   have hbA := qgy qmM gA
   go_wp2_with (first
    | (refine qab (by rfl) 173 _ (by rfl) #[.string qmM, qU gA] [(0, .string qmM), (1, qU gA)] (by kernel_rfl) hbA ?_))
   go_returns
   exact ⟨by rw [EE.o]; rfl, X7.o, A7.o⟩
end
end Go.Proofs.YtccgfabojbjmjaaGreatDoor
