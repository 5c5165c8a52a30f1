import Derived.Test.YtccgfabojbjmjaaGreatDoorLo17
import Derived.Test.YtccgfabojbjmjaaGreatDoorLo13
import Derived.Deep.RegionHeld3
namespace Go.Proofs.YtccgfabojbjmjaaGreatDoor
open Go.RowKit
section
variable {P : Program} {ops : Array Oper} {S : World → Prop}
theorem YE {op : Oper} {a : Act} (hw : Region.wanted op (yielded ops a.tmps) = true) (ty : TypeId) (x : Operand) (ho : op.op = .load ty x)
  (b o : Nat) (hx : a.eval x = .pointer (some ⟨b, o, none⟩)) (cs : List Value) (V : Array Value) (hV : cs.toArray = V) (d : TypeDesc) (hS : ∀ w, S w → w.rangeAt b o cs)
  (hu : P.underlying ty = some d) (hd : d.isRow = true) (hi : (P.info? ty).map (·.size) = some cs.length) : YieldsIf P ops S op (.agg V) a := by
 subst hV
 exact yieldsIf_load_mid hw ty x ho b o hx cs d hS hu hd hi
theorem qmQ {op : Oper} {a : Act} (hw : Region.wanted op (yielded ops a.tmps) = true) (t : TypeId) (parts : Array (Nat × Operand)) (ho : op.op = .build t parts) (cells : Array Value)
  (hb : P.built t (parts.map fun (i, x) => (i, a.eval x)).toList = some cells) : YieldsIf P ops S op (.agg cells) a := by
 refine .inl ⟨hw, fun w _ => ?_⟩
 unfold execOp
 simp only [ho, Sem.run_bind, run_build w t _ cells hb, Result.andThen_ok]
 rfl
theorem YS {o : Oper} {a : Act} {w : World} {K : Act → World → Prop} {Q : Exit → Act → World → Prop} {E : Prop} (hgd : o.guard = none) (f : FuncId) (args : Array Value)
  (hrun : (execOp a.eval o).run P w = .ok (.enter f args) w) (v : Value) (R : World → Prop) (hc : Calls P f args w fun e w' => e = .returned v ∧ R w') (h : ∀ w', R w' → K (a.put o.dst v) w') :
  if Region.wanted o (yielded ops a.tmps) = true then Oper.wp P o a w K Q else E := by
 rw [if_pos (by simp [Region.wanted, hgd])]
 unfold Oper.wp
 rw [hrun, Oper.upon_enter]
 exact hc.mono (fun e w' hh => by obtain ⟨rfl, hR⟩ := hh; exact h w' hR)
theorem yl {o : Oper} {a : Act} {w w' : World} {K : Act → World → Prop} {Q : Exit → Act → World → Prop} {E : Prop} (hgd : o.guard = none) (v : Value)
  (hrun : (execOp a.eval o).run P w = .ok (.value v) w') (h : K (a.put o.dst v) w') :
  if Region.wanted o (yielded ops a.tmps) = true then Oper.wp P o a w K Q else E := by
 rw [if_pos (by simp [Region.wanted, hgd])]
 unfold Oper.wp
 rw [hrun, Oper.upon_value]
 exact h
theorem zE {P : Program} {ops : Array Oper} {o : Oper} {a : Act} {w : World} {K : Act → World → Prop} {Q : Exit → Act → World → Prop} {E : Prop} {f : FuncId} {args : Array Value} {v : Value} {R : World → Prop} (hrun : (execOp a.eval o).run P w = .ok (.enter f args) w) (hc : Calls P f args w fun e w' => e = .returned v ∧ R w') (h : ∀ w', R w' → K (a.put o.dst v) w') (hgd : o.guard = none := by rfl) :
  if Region.wanted o (yielded ops a.tmps) = true then Oper.wp P o a w K Q else E := YS hgd f args hrun v R hc h
theorem zA {P : Program} {ops : Array Oper} {o : Oper} {a : Act} {w : World} {b : Obj} {K : Act → World → Prop} {Q : Exit → Act → World → Prop} {E : Prop} (hrun : (execOp a.eval o).run P w = .ok (.value (.pointer (some ⟨w.heap.size, 0, none⟩))) (w.alloc b)) (h : K (a.put o.dst (.pointer (some ⟨w.heap.size, 0, none⟩))) (w.alloc b)) (hgd : o.guard = none := by rfl) :
  if Region.wanted o (yielded ops a.tmps) = true then Oper.wp P o a w K Q else E := yl hgd _ hrun h
end
theorem qF {w : World} {b o g : Nat} {cs : List Value} {new : Array Value} (h : w.rangeAt b o cs) (hne : b ≠ g) : (w.setRow g new).rangeAt b o cs :=
 fun j v hv => (zo (zc _ _ _ _ hne)).trans (h j v hv)
theorem jX {ops : Array Oper} {S : World → Prop} {op : Oper} {a : Act} (hw : Region.wanted op (yielded ops a.tmps) = true) (x : Operand) (ho : op.op = .load 95 x)
  (b o n : Nat) (hx : a.eval x = .pointer (some ⟨b, o, none⟩)) (hS : ∀ w, S w → w.rangeAt b o (fL n)) : YieldsIf Tryz.prog ops S op (.agg (fA n)) a :=
 YE hw _ x ho b o hx (fL n) (fA n) rfl _ hS q7 rfl (Yt n)
def qL (p : Q3) : List Value := fL p.x ++ fL p.y ++ fL p.z
def qA (p : Q3) : Array Value := (qL p).toArray
theorem qip (p : Q3) : (qL p).length = 30 := by simp [qL, ka]
theorem qtk : (Tryz.prog.info? 98).map (·.size) = some 30 := by kernel_rfl
theorem ql4 (p : Q3) : (qA p).size = 30 := by simp [qA, qip]
theorem jE (p : Q3) : (Tryz.prog.info? 98).map (·.size) = some (qA p).size := by rw [ql4]; exact qtk
theorem QN (p q : Q3) : (qA p).size = (qA q).size := by rw [ql4, ql4]
theorem qg5 (n : Nat) : ∀ v ∈ fL n, v.oneCell' = true := qbO _
theorem QO (p : Q3) : (qA p).all (·.oneCell') = true := all_oneCell_toArray (fun v hv => by
 unfold qL at hv
 rcases List.mem_append.1 hv with h | h
 ·
  rcases List.mem_append.1 h with h | h
  · exact qg5 _ v h
  · exact qg5 _ v h
 · exact qg5 _ v h)
def q0 : Q3 := ⟨0, 0, 0⟩
theorem qeC (x : Nat) : fL x = [iv (fc x 0), iv (fc x 1), iv (fc x 2), iv (fc x 3), iv (fc x 4), iv (fc x 5), iv (fc x 6), iv (fc x 7), iv (fc x 8), iv (fc x 9)] := by
 unfold fL; rw [qkA]; rfl
theorem qmL : fL 0 = [iv 0, iv 0, iv 0, iv 0, iv 0, iv 0, iv 0, iv 0, iv 0, iv 0] := by
 unfold fL; rw [qhI 0 (by decide)]; rfl
theorem qjZ (w : World) : (zeroValue 98).run Tryz.prog w = .ok (.agg (qA q0)) w := by
 unfold qA qL q0; rw [qmL]; kernel_rfl
theorem qi3 (a0 a1 a2 a3 a4 a5 a6 a7 a8 a9 b0 b1 b2 b3 b4 b5 b6 b7 b8 b9 c0 c1 c2 c3 c4 c5 c6 c7 c8 c9 : Int) :
  Tryz.prog.built 98 [(0, .agg #[iv a0, iv a1, iv a2, iv a3, iv a4, iv a5, iv a6, iv a7, iv a8, iv a9]), (1, .agg #[iv b0, iv b1, iv b2, iv b3, iv b4, iv b5, iv b6, iv b7, iv b8, iv b9]), (2, .agg #[iv c0, iv c1, iv c2, iv c3, iv c4, iv c5, iv c6, iv c7, iv c8, iv c9])]
   = some #[iv a0, iv a1, iv a2, iv a3, iv a4, iv a5, iv a6, iv a7, iv a8, iv a9, iv b0, iv b1, iv b2, iv b3, iv b4, iv b5, iv b6, iv b7, iv b8, iv b9, iv c0, iv c1, iv c2, iv c3, iv c4, iv c5, iv c6, iv c7, iv c8, iv c9] := by kernel_rfl
theorem qei (x y z : Nat) : Tryz.prog.built 98 [(0, .agg (fA x)), (1, .agg (fA y)), (2, .agg (fA z))] = some (qA ⟨x, y, z⟩) := by
 rw [qcw, qcw, qcw, qi3]
 unfold qA qL
 rw [qeC, qeC, qeC]
 rfl
theorem JJ {w : World} {b : Nat} {p : Q3} {T : TypeId} {fr : Nat × Nat} (h : w.heap[b]? = some (.cells (qA p) T fr)) : w.rangeAt b 0 (fL p.x) ∧ w.rangeAt b 10 (fL p.y) ∧ w.rangeAt b 20 (fL p.z) := by
 have hx := ka p.x
 have hy := ka p.y
 have hz := ka p.z
 have key : ∀ j, w.cell? ⟨b, j, none⟩ = (qL p)[j]? := by
  intro j
  rw [zj w b j _ T _ h]; simp [qA]
 refine ⟨?_, ?_, ?_⟩
 ·
  intro j v hv
  have hj := (List.getElem?_eq_some_iff.1 hv).1
  rw [Zb, key]; unfold qL
  rw [z9, z5 hj]; exact hv
 ·
  intro j v hv
  have hj := (List.getElem?_eq_some_iff.1 hv).1
  rw [key]; unfold qL
  rw [z9, zY (by omega), z5 (by omega), hx, Nat.add_sub_cancel_left]; exact hv
 ·
  intro j v hv
  rw [key]; unfold qL
  rw [zY (by simp; omega)]
  simp only [Ze, hx, hy]
  rw [show 20 + j - (10 + 10) = j by omega]; exact hv
theorem Jn {a : Act} {o : Oper} (x y : Operand) (ho : o.op = .call { callee := .value (.func 63), args := #[x, y], argTypes := #[95, 95] }) (v1 v2 : Value) (hx : a.eval x = v1) (hy : a.eval y = v2) (w : World) :
  (execOp a.eval o).run Tryz.prog w = .ok (.enter 63 #[v1, v2]) w := by
 unfold execOp
 simp only [ho]
 subst hx hy
 go_simp
theorem qdi {a : Act} {o : Oper} (x y : Operand) (ho : o.op = .call { callee := .value (.func 109), args := #[x, y], argTypes := #[95, 95] }) (v1 v2 : Value) (hx : a.eval x = v1) (hy : a.eval y = v2) (w : World) :
  (execOp a.eval o).run Tryz.prog w = .ok (.enter 109 #[v1, v2]) w := by
 unfold execOp
 simp only [ho]
 subst hx hy
 go_simp
theorem qhr {a : Act} {o : Oper} (x y : Operand) (ho : o.op = .call { callee := .value (.func 64), args := #[x, y], argTypes := #[95, 95] }) (v1 v2 : Value) (hx : a.eval x = v1) (hy : a.eval y = v2) (w : World) :
  (execOp a.eval o).run Tryz.prog w = .ok (.enter 64 #[v1, v2]) w := by
 unfold execOp
 simp only [ho]
 subst hx hy
 go_simp
theorem qaG {a : Act} {o : Oper} (x : Operand) (ho : o.op = .call { callee := .value (.func 65), args := #[x], argTypes := #[3] }) (v1 : Value) (hx : a.eval x = v1) (w : World) :
  (execOp a.eval o).run Tryz.prog w = .ok (.enter 65 #[v1]) w := by
 unfold execOp
 simp only [ho]
 subst hx
 go_simp
theorem qmq {a : Act} {o : Oper} (x : Operand) (ho : o.op = .call { callee := .value (.func 66), args := #[x], argTypes := #[95] }) (v1 : Value) (hx : a.eval x = v1) (w : World) :
  (execOp a.eval o).run Tryz.prog w = .ok (.enter 66 #[v1]) w := by
 unfold execOp
 simp only [ho]
 subst hx
 go_simp
theorem qc3 {a : Act} {o : Oper} (x : Operand) (ho : o.op = .call { callee := .value (.func 111), args := #[x], argTypes := #[95] }) (v1 : Value) (hx : a.eval x = v1) (w : World) :
  (execOp a.eval o).run Tryz.prog w = .ok (.enter 111 #[v1]) w := by
 unfold execOp
 simp only [ho]
 subst hx
 go_simp
theorem Yq {ops : Array Oper} {S : World → Prop} {op : Oper} {a : Act} (hw : Region.wanted op (yielded ops a.tmps) = true) (t : TypeId) (parts : Array (Nat × Operand)) (ho : op.op = .build t parts) (cells : Array Value) (ps : List (Nat × Value))
  (hp : (parts.map fun (i, x) => (i, a.eval x)).toList = ps) (hb : Tryz.prog.built t ps = some cells) : YieldsIf Tryz.prog ops S op (.agg cells) a := qmQ hw t parts ho cells (by rw [hp]; exact hb)
theorem kd (w : World) : zC 65 #[.int .i64 1] w (.agg (fA 1)) := kA 1 (by decide) w
theorem yi {a : Act} {o : Oper} (ho : o.op = .alloc 95) (w : World) :
  (execOp a.eval o).run Tryz.prog w = .ok (.value (zp w.heap.size 0)) (w.alloc (.cells (fA 0) 95)) := by
 have hz := JP
 unfold execOp
 simp only [ho]
 go_simp
def nL (n : Nat) : List Value := [nv (wd n 0), nv (wd n 1), nv (wd n 2), nv (wd n 3)]
theorem qcz (n : Nat) : (Tryz.prog.info? 80).map (·.size) = some (nL n).length := J9
theorem Qu {w : World} {b n : Nat} {T : TypeId} {fr : Nat × Nat} (h : w.heap[b]? = some (.cells (qb n) T fr)) : w.rangeAt b 0 (nL n) := by
 intro j v hv
 rw [Zb, zj w b j _ T _ h]
 show ((nL n).toArray)[j]? = some v
 simpa using hv
theorem jA {ops : Array Oper} {S : World → Prop} {op : Oper} {a : Act} (hw : Region.wanted op (yielded ops a.tmps) = true) (x : Operand) (ho : op.op = .load 80 x)
  (b o n : Nat) (hx : a.eval x = .pointer (some ⟨b, o, none⟩)) (hS : ∀ w, S w → w.rangeAt b o (nL n)) : YieldsIf Tryz.prog ops S op (.agg (qb n)) a :=
 YE hw _ x ho b o hx (nL n) (qb n) rfl _ hS jC rfl (qcz n)
theorem QL (m n : Nat) : (qb m).size = (qb n).size := rfl
theorem qoI (n : Nat) : Value.agg (nL n).toArray = .agg (qb n) := rfl
def pA (p : Pt) : Array Value := YF p.x p.y p.z p.t
def p0 : Pt := ⟨0, 0, 0, 0⟩
theorem jO (p : Pt) : (Tryz.prog.info? 82).map (·.size) = some (pA p).size := qhE _ _ _ _
theorem ZK (p q : Pt) : (pA p).size = (pA q).size := rfl
theorem QJ (p : Pt) : (pA p).all (·.oneCell') = true := qmm _ _ _ _
theorem yK (w : World) : (zeroValue 82).run Tryz.prog w = .ok (.agg (pA p0)) w := by kernel_rfl
theorem qjD (w : World) : (zeroValue 80).run Tryz.prog w = .ok (.agg (qb 0)) w := by kernel_rfl
theorem Qr {w : World} {b : Nat} {p : Pt} {T : TypeId} {fr : Nat × Nat} (h : w.heap[b]? = some (.cells (pA p) T fr)) : w.rangeAt b 0 (nL p.x) ∧ w.rangeAt b 4 (nL p.y) ∧ w.rangeAt b 8 (nL p.z) ∧ w.rangeAt b 12 (nL p.t) := by
 have key : ∀ j, w.cell? ⟨b, j, none⟩ = (nL p.x ++ (nL p.y ++ (nL p.z ++ nL p.t)))[j]? := by
  intro j
  rw [zj w b j _ T _ h]; simp [pA, YF, nL]
 have l4 : ∀ n, (nL n).length = 4 := fun _ => rfl
 refine ⟨?_, ?_, ?_, ?_⟩
 ·
  intro j v hv
  have hj := (List.getElem?_eq_some_iff.1 hv).1
  rw [Zb, key, z5 hj]; exact hv
 ·
  intro j v hv
  have hj := (List.getElem?_eq_some_iff.1 hv).1
  rw [key, zY (by rw [l4]; omega), z5 (by have h1 := l4 p.x; have h2 := l4 p.y; have h3 := l4 p.z; omega), l4, Nat.add_sub_cancel_left]; exact hv
 ·
  intro j v hv
  have hj := (List.getElem?_eq_some_iff.1 hv).1
  rw [key, zY (by rw [l4]; omega), l4, zY (by rw [l4]; omega), l4, z5 (by have h1 := l4 p.x; have h2 := l4 p.y; have h3 := l4 p.z; omega), show 8 + j - 4 - 4 = j by omega]; exact hv
 ·
  intro j v hv
  rw [key, zY (by rw [l4]; omega), l4, zY (by rw [l4]; omega), l4, zY (by rw [l4]; omega), l4, show 12 + j - 4 - 4 - 4 = j by omega]; exact hv
theorem qo0 (e f g h : Nat) (he : e < P) (hf : f < P) (hg : g < P) (hh : h < P) (w : World) :
  Calls Tryz.prog 121 #[.agg (qb e), .agg (qb f), .agg (qb g), .agg (qb h)] w fun e' w' => e' = .returned (.agg (pA (YL e f g h))) ∧ zB w w' := qpR e f g h he hf hg hh w
theorem ys {a : Act} {o : Oper} (x y : Operand) (ho : o.op = .call { callee := .value (.func 93), args := #[x, y], argTypes := #[80, 80] }) (v1 v2 : Value) (hx : a.eval x = v1) (hy : a.eval y = v2) (w : World) :
  (execOp a.eval o).run Tryz.prog w = .ok (.enter 93 #[v1, v2]) w := by
 unfold execOp
 simp only [ho]
 subst hx hy
 go_simp
theorem yW {a : Act} {o : Oper} (x y : Operand) (ho : o.op = .call { callee := .value (.func 120), args := #[x, y], argTypes := #[80, 80] }) (v1 v2 : Value) (hx : a.eval x = v1) (hy : a.eval y = v2) (w : World) :
  (execOp a.eval o).run Tryz.prog w = .ok (.enter 120 #[v1, v2]) w := by
 unfold execOp
 simp only [ho]
 subst hx hy
 go_simp
theorem yw {a : Act} {o : Oper} (x y : Operand) (ho : o.op = .call { callee := .value (.func 119), args := #[x, y], argTypes := #[80, 80] }) (v1 v2 : Value) (hx : a.eval x = v1) (hy : a.eval y = v2) (w : World) :
  (execOp a.eval o).run Tryz.prog w = .ok (.enter 119 #[v1, v2]) w := by
 unfold execOp
 simp only [ho]
 subst hx hy
 go_simp
theorem qf9 {a : Act} {o : Oper} (x y z t : Operand) (ho : o.op = .call { callee := .value (.func 121), args := #[x, y, z, t], argTypes := #[80, 80, 80, 80] }) (v1 v2 v3 v4 : Value) (hx : a.eval x = v1) (hy : a.eval y = v2) (hz : a.eval z = v3) (ht : a.eval t = v4) (w : World) :
  (execOp a.eval o).run Tryz.prog w = .ok (.enter 121 #[v1, v2, v3, v4]) w := by
 unfold execOp
 simp only [ho]
 subst hx hy hz ht
 go_simp
theorem ja {a : Act} {o : Oper} (ho : o.op = .alloc 80) (w : World) :
  (execOp a.eval o).run Tryz.prog w = .ok (.value (zp w.heap.size 0)) (w.alloc (.cells (qb 0) 80)) := by
 have hz := qjD
 unfold execOp
 simp only [ho]
 go_simp
theorem qv {w v : World} {b : Nat} {p : Pt} {T : TypeId} {fr : Nat × Nat} (R : Hid (w.heap[b]? = some (.cells (pA p) T fr))) (K : Hid (zB w v)) : v.rangeAt b 0 (nL p.x) := q8 (Qr R.o).1 K.o (qh R.o)
theorem qw {w v : World} {b : Nat} {p : Pt} {T : TypeId} {fr : Nat × Nat} (R : Hid (w.heap[b]? = some (.cells (pA p) T fr))) (K : Hid (zB w v)) : v.rangeAt b 4 (nL p.y) := q8 (Qr R.o).2.1 K.o (qh R.o)
theorem qW {w v : World} {b : Nat} {p : Pt} {T : TypeId} {fr : Nat × Nat} (R : Hid (w.heap[b]? = some (.cells (pA p) T fr))) (K : Hid (zB w v)) : v.rangeAt b 8 (nL p.z) := q8 (Qr R.o).2.2.1 K.o (qh R.o)
theorem QI {w v : World} {b : Nat} {p : Pt} {T : TypeId} {fr : Nat × Nat} (R : Hid (w.heap[b]? = some (.cells (pA p) T fr))) (K : Hid (zB w v)) : v.rangeAt b 12 (nL p.t) := q8 (Qr R.o).2.2.2 K.o (qh R.o)
theorem j5 {w v : World} {b : Nat} {p : Q3} {T : TypeId} {fr : Nat × Nat} (R : Hid (w.heap[b]? = some (.cells (qA p) T fr))) (K : Hid (zB w v)) : v.rangeAt b 0 (fL p.x) := q8 (JJ R.o).1 K.o (qh R.o)
theorem j0 {w v : World} {b : Nat} {p : Q3} {T : TypeId} {fr : Nat × Nat} (R : Hid (w.heap[b]? = some (.cells (qA p) T fr))) (K : Hid (zB w v)) : v.rangeAt b 10 (fL p.y) := q8 (JJ R.o).2.1 K.o (qh R.o)
theorem qS {w v : World} {b n : Nat} {T : TypeId} {fr : Nat × Nat} (R : Hid (w.heap[b]? = some (.cells (qb n) T fr))) (K : Hid (zB w v)) : v.rangeAt b 0 (nL n) := q8 (Qu R.o) K.o (qh R.o)
theorem qE {w v : World} {b n : Nat} {T : TypeId} {fr : Nat × Nat} (R : Hid (w.heap[b]? = some (.cells (fA n) T fr))) (K : Hid (zB w v)) : v.rangeAt b 0 (fL n) := q8 (QU R.o) K.o (qh R.o)
theorem qq {w v u : World} (K : Hid (zB w v)) (h : zB v u) : Hid (zB w u) := K.o.trans (h.mono K.o.size)
theorem qZ {w v : World} (K : Hid (zB w v)) (o : Obj) : Hid (zB w (v.alloc o)) := K.o.alloc K.o.size _
end Go.Proofs.YtccgfabojbjmjaaGreatDoor
