import Derived.Test.YtemdlpcljjdfjaaDoorRefTx
import Derived.Test.YtemdlpcljjdfjaaDoorParts
import Derived.Test.YtemdlpcljjdfjaaDoorSumMath
import Derived.Deep.RegionHeld3
/- Regions that draw their order, by hand; a point of the document in a block. -/
namespace Go.Proofs.YtemdlpcljjdfjaaDoor
open Go.RowKit
section
variable {P : Program} {ops : Array Oper} {S : World → Prop}
/-- A load of a row that S gives may be taken first. -/
theorem yld_load {op : Oper} {a : Act} (hw : Region.wanted op (yielded ops a.tmps) = true) (ty : TypeId) (x : Operand) (ho : op.op = .load ty x)
    (b o : Nat) (hx : a.eval x = .pointer (some ⟨b, o, none⟩)) (cs : List Value) (V : Array Value) (hV : cs.toArray = V) (d : TypeDesc) (hS : ∀ w, S w → w.rangeAt b o cs)
    (hu : P.underlying ty = some d) (hd : d.isRow = true) (hi : (P.info? ty).map (·.size) = some cs.length) : YieldsIf P ops S op (.agg V) a := by
  subst hV
  exact yieldsIf_load_mid hw ty x ho b o hx cs d hS hu hd hi
/-- A 'build' may be taken first. -/
theorem yld_build {op : Oper} {a : Act} (hw : Region.wanted op (yielded ops a.tmps) = true) (t : TypeId) (parts : Array (Nat × Operand)) (ho : op.op = .build t parts) (cells : Array Value)
    (hb : P.built t (parts.map fun (i, x) => (i, a.eval x)).toList = some cells) : YieldsIf P ops S op (.agg cells) a := by
  refine .inl ⟨hw, fun w _ => ?_⟩
  unfold execOp
  simp only [ho, Sem.run_bind, run_build w t _ cells hb, Result.andThen_ok]
  rfl
/-- A call by its contract, at a step of a region that draws its order. -/
theorem step_callTo {o : Oper} {a : Act} {w : World} {K : Act → World → Prop} {Q : Exit → Act → World → Prop} {E : Prop} (hgd : o.guard = none) (f : FuncId) (args : Array Value)
    (hrun : (execOp a.eval o).run P w = .ok (.enter f args) w) (v : Value) (R : World → Prop) (hc : Calls P f args w fun e w' => e = .returned v ∧ R w') (h : ∀ w', R w' → K (a.put o.dst v) w') :
    if Region.wanted o (yielded ops a.tmps) = true then Oper.wp P o a w K Q else E := by
  rw [if_pos (by simp [Region.wanted, hgd])]
  unfold Oper.wp
  rw [hrun, Oper.upon_enter]
  exact hc.mono (fun e w' hh => by obtain ⟨rfl, hR⟩ := hh; exact h w' hR)
/-- What leaves a value, and a world: at such a step. -/
theorem step_runTo {o : Oper} {a : Act} {w w' : World} {K : Act → World → Prop} {Q : Exit → Act → World → Prop} {E : Prop} (hgd : o.guard = none) (v : Value)
    (hrun : (execOp a.eval o).run P w = .ok (.value v) w') (h : K (a.put o.dst v) w') :
    if Region.wanted o (yielded ops a.tmps) = true then Oper.wp P o a w K Q else E := by
  rw [if_pos (by simp [Region.wanted, hgd])]
  unfold Oper.wp
  rw [hrun, Oper.upon_value]
  exact h
theorem yld_val {op : Oper} {a : Act} {v : Value} (hw : Region.wanted op (yielded ops a.tmps) = true) (hrun : ∀ w, (execOp a.eval op).run P w = .ok (.value v) w) : YieldsIf P ops S op v a := .inl ⟨hw, fun w _ => hrun w⟩
end
theorem range_set {w : World} {b o g : Nat} {cs : List Value} {new : Array Value} (h : w.rangeAt b o cs) (hne : b ≠ g) : (w.setRow g new).rangeAt b o cs :=
  fun j v hv => (World.cell?_of_block (setRow_other _ _ _ _ hne)).trans (h j v hv)
/-- A load of a number of the document. -/
theorem yldF {ops : Array Oper} {S : World → Prop} {op : Oper} {a : Act} (hw : Region.wanted op (yielded ops a.tmps) = true) (x : Operand) (ho : op.op = .load 76 x)
    (b o n : Nat) (hx : a.eval x = .pointer (some ⟨b, o, none⟩)) (hS : ∀ w, S w → w.rangeAt b o (fL n)) : YieldsIf Tryd.prog ops S op (.agg (fA n)) a :=
  yld_load hw _ x ho b o hx (fL n) (fA n) rfl _ hS underF rfl (fL_size n)
/-- A point of the document: thirty digits. -/
def qL (p : Q3) : List Value := fL p.x ++ fL p.y ++ fL p.z
def qA (p : Q3) : Array Value := (qL p).toArray
theorem qL_len (p : Q3) : (qL p).length = 30 := by simp [qL, fL_len]
theorem underQ : ∃ d, Tryd.prog.underlying 79 = some d ∧ d.isRow = true := ⟨_, Tryd.underlying79, rfl⟩
theorem sizeQ : (Tryd.prog.info? 79).map (·.size) = some 30 := by kernel_rfl
theorem qA_len (p : Q3) : (qA p).size = 30 := by simp [qA, qL_len]
theorem qA_size (p : Q3) : (Tryd.prog.info? 79).map (·.size) = some (qA p).size := by rw [qA_len]; exact sizeQ
theorem qA_old (p q : Q3) : (qA p).size = (qA q).size := by rw [qA_len, qA_len]
theorem fL_cell (n : Nat) : ∀ v ∈ fL n, v.oneCell' = true := ivs_cell _
theorem qA_all (p : Q3) : (qA p).all (·.oneCell') = true := all_oneCell_toArray (fun v hv => by
  unfold qL at hv
  rcases List.mem_append.1 hv with h | h
  · rcases List.mem_append.1 h with h | h
    · exact fL_cell _ v h
    · exact fL_cell _ v h
  · exact fL_cell _ v h)
def q0 : Q3 := ⟨0, 0, 0⟩
theorem fL_list (x : Nat) : fL x = [iv (fc x 0), iv (fc x 1), iv (fc x 2), iv (fc x 3), iv (fc x 4), iv (fc x 5), iv (fc x 6), iv (fc x 7), iv (fc x 8), iv (fc x 9)] := by
  unfold fL; rw [fd_list]; rfl
theorem fL_zero : fL 0 = [iv 0, iv 0, iv 0, iv 0, iv 0, iv 0, iv 0, iv 0, iv 0, iv 0] := by
  unfold fL; rw [fd_small 0 (by decide)]; rfl
theorem zeroQ (w : World) : (zeroValue 79).run Tryd.prog w = .ok (.agg (qA q0)) w := by
  unfold qA qL q0; rw [fL_zero]; kernel_rfl
theorem builtQ_gen (a0 a1 a2 a3 a4 a5 a6 a7 a8 a9 b0 b1 b2 b3 b4 b5 b6 b7 b8 b9 c0 c1 c2 c3 c4 c5 c6 c7 c8 c9 : Int) :
    Tryd.prog.built 79 [(0, .agg #[iv a0, iv a1, iv a2, iv a3, iv a4, iv a5, iv a6, iv a7, iv a8, iv a9]), (1, .agg #[iv b0, iv b1, iv b2, iv b3, iv b4, iv b5, iv b6, iv b7, iv b8, iv b9]), (2, .agg #[iv c0, iv c1, iv c2, iv c3, iv c4, iv c5, iv c6, iv c7, iv c8, iv c9])]
      = some #[iv a0, iv a1, iv a2, iv a3, iv a4, iv a5, iv a6, iv a7, iv a8, iv a9, iv b0, iv b1, iv b2, iv b3, iv b4, iv b5, iv b6, iv b7, iv b8, iv b9, iv c0, iv c1, iv c2, iv c3, iv c4, iv c5, iv c6, iv c7, iv c8, iv c9] := by kernel_rfl
theorem builtQ (x y z : Nat) : Tryd.prog.built 79 [(0, .agg (fA x)), (1, .agg (fA y)), (2, .agg (fA z))] = some (qA ⟨x, y, z⟩) := by
  rw [fA_list, fA_list, fA_list, builtQ_gen]
  unfold qA qL
  rw [fL_list, fL_list, fL_list]
  rfl
theorem rangeQ {w : World} {b : Nat} {p : Q3} {T : TypeId} {fr : Nat × Nat} (h : w.heap[b]? = some (.cells (qA p) T fr)) : w.rangeAt b 0 (fL p.x) ∧ w.rangeAt b 10 (fL p.y) ∧ w.rangeAt b 20 (fL p.z) := by
  have hx := fL_len p.x
  have hy := fL_len p.y
  have hz := fL_len p.z
  have key : ∀ j, w.cell? ⟨b, j, none⟩ = (qL p)[j]? := by
    intro j
    rw [cell_of_row w b j _ T _ h]; simp [qA]
  refine ⟨?_, ?_, ?_⟩
  · intro j v hv
    have hj := (List.getElem?_eq_some_iff.1 hv).1
    rw [Nat.zero_add, key]; unfold qL
    rw [List.append_assoc, List.getElem?_append_left hj]; exact hv
  · intro j v hv
    have hj := (List.getElem?_eq_some_iff.1 hv).1
    rw [key]; unfold qL
    rw [List.append_assoc, List.getElem?_append_right (by omega), List.getElem?_append_left (by omega), hx, Nat.add_sub_cancel_left]; exact hv
  · intro j v hv
    rw [key]; unfold qL
    rw [List.getElem?_append_right (by simp; omega)]
    simp only [List.length_append, hx, hy]
    rw [show 20 + j - (10 + 10) = j by omega]; exact hv
end Go.Proofs.YtemdlpcljjdfjaaDoor
/- What a call, an alloc of the document's own comes to. -/
namespace Go.Proofs.YtemdlpcljjdfjaaDoor
open Go.RowKit
theorem hrunMul {a : Act} {o : Oper} (x y : Operand) (ho : o.op = .call { callee := .value (.func 56), args := #[x, y], argTypes := #[76, 76] }) (v1 v2 : Value) (hx : a.eval x = v1) (hy : a.eval y = v2) (w : World) :
    (execOp a.eval o).run Tryd.prog w = .ok (.enter 56 #[v1, v2]) w := by
  unfold execOp
  simp only [ho]
  subst hx hy
  go_simp
theorem hrunAdd {a : Act} {o : Oper} (x y : Operand) (ho : o.op = .call { callee := .value (.func 61), args := #[x, y], argTypes := #[76, 76] }) (v1 v2 : Value) (hx : a.eval x = v1) (hy : a.eval y = v2) (w : World) :
    (execOp a.eval o).run Tryd.prog w = .ok (.enter 61 #[v1, v2]) w := by
  unfold execOp
  simp only [ho]
  subst hx hy
  go_simp
theorem hrunSub {a : Act} {o : Oper} (x y : Operand) (ho : o.op = .call { callee := .value (.func 57), args := #[x, y], argTypes := #[76, 76] }) (v1 v2 : Value) (hx : a.eval x = v1) (hy : a.eval y = v2) (w : World) :
    (execOp a.eval o).run Tryd.prog w = .ok (.enter 57 #[v1, v2]) w := by
  unfold execOp
  simp only [ho]
  subst hx hy
  go_simp
theorem hrunSmall {a : Act} {o : Oper} (x : Operand) (ho : o.op = .call { callee := .value (.func 58), args := #[x], argTypes := #[3] }) (v1 : Value) (hx : a.eval x = v1) (w : World) :
    (execOp a.eval o).run Tryd.prog w = .ok (.enter 58 #[v1]) w := by
  unfold execOp
  simp only [ho]
  subst hx
  go_simp
theorem hrunInv {a : Act} {o : Oper} (x : Operand) (ho : o.op = .call { callee := .value (.func 59), args := #[x], argTypes := #[76] }) (v1 : Value) (hx : a.eval x = v1) (w : World) :
    (execOp a.eval o).run Tryd.prog w = .ok (.enter 59 #[v1]) w := by
  unfold execOp
  simp only [ho]
  subst hx
  go_simp
theorem hrunRoot {a : Act} {o : Oper} (x : Operand) (ho : o.op = .call { callee := .value (.func 62), args := #[x], argTypes := #[76] }) (v1 : Value) (hx : a.eval x = v1) (w : World) :
    (execOp a.eval o).run Tryd.prog w = .ok (.enter 62 #[v1]) w := by
  unfold execOp
  simp only [ho]
  subst hx
  go_simp
theorem yld_build' {ops : Array Oper} {S : World → Prop} {op : Oper} {a : Act} (hw : Region.wanted op (yielded ops a.tmps) = true) (t : TypeId) (parts : Array (Nat × Operand)) (ho : op.op = .build t parts) (cells : Array Value) (ps : List (Nat × Value))
    (hp : (parts.map fun (i, x) => (i, a.eval x)).toList = ps) (hb : Tryd.prog.built t ps = some cells) : YieldsIf Tryd.prog ops S op (.agg cells) a := yld_build hw t parts ho cells (by rw [hp]; exact hb)
theorem smallOne (w : World) : Calls Tryd.prog 58 #[.int .i64 1] w fun e w' => e = .returned (.agg (fA 1)) ∧ Below w.heap.size w w' := smallA 1 (by decide) w
theorem hrunAllocF {a : Act} {o : Oper} (ho : o.op = .alloc 76) (w : World) :
    (execOp a.eval o).run Tryd.prog w = .ok (.value (.pointer (some ⟨w.heap.size, 0, none⟩))) (w.alloc (.cells (fA 0) 76)) := by
  have hz := zeroFA
  unfold execOp
  simp only [ho]
  go_simp
end Go.Proofs.YtemdlpcljjdfjaaDoor
/- The program's points in blocks; what its calls come to. -/
namespace Go.Proofs.YtemdlpcljjdfjaaDoor
open Go.RowKit
def nL (n : Nat) : List Value := [nv (wd n 0), nv (wd n 1), nv (wd n 2), nv (wd n 3)]
theorem nL_size (n : Nat) : (Tryd.prog.info? 42).map (·.size) = some (nL n).length := size33
theorem rangeN {w : World} {b n : Nat} {T : TypeId} {fr : Nat × Nat} (h : w.heap[b]? = some (.cells (num4A n) T fr)) : w.rangeAt b 0 (nL n) := by
  intro j v hv
  rw [Nat.zero_add, cell_of_row w b j _ T _ h]
  show ((nL n).toArray)[j]? = some v
  simpa using hv
theorem yldN {ops : Array Oper} {S : World → Prop} {op : Oper} {a : Act} (hw : Region.wanted op (yielded ops a.tmps) = true) (x : Operand) (ho : op.op = .load 42 x)
    (b o n : Nat) (hx : a.eval x = .pointer (some ⟨b, o, none⟩)) (hS : ∀ w, S w → w.rangeAt b o (nL n)) : YieldsIf Tryd.prog ops S op (.agg (num4A n)) a :=
  yld_load hw _ x ho b o hx (nL n) (num4A n) rfl _ hS under33 rfl (nL_size n)
theorem n4_old (m n : Nat) : (num4A m).size = (num4A n).size := rfl
theorem foldN (n : Nat) : Value.agg (nL n).toArray = .agg (num4A n) := rfl
def pA (p : Pt) : Array Value := ptA p.x p.y p.z p.t
def p0 : Pt := ⟨0, 0, 0, 0⟩
theorem pA_size (p : Pt) : (Tryd.prog.info? 44).map (·.size) = some (pA p).size := ptA_size _ _ _ _
theorem pA_old (p q : Pt) : (pA p).size = (pA q).size := rfl
theorem pA_all (p : Pt) : (pA p).all (·.oneCell') = true := ptA_all _ _ _ _
theorem zeroP (w : World) : (zeroValue 44).run Tryd.prog w = .ok (.agg (pA p0)) w := by kernel_rfl
theorem zeroE (w : World) : (zeroValue 42).run Tryd.prog w = .ok (.agg (num4A 0)) w := by kernel_rfl
theorem rangeP {w : World} {b : Nat} {p : Pt} {T : TypeId} {fr : Nat × Nat} (h : w.heap[b]? = some (.cells (pA p) T fr)) : w.rangeAt b 0 (nL p.x) ∧ w.rangeAt b 4 (nL p.y) ∧ w.rangeAt b 8 (nL p.z) ∧ w.rangeAt b 12 (nL p.t) := by
  have key : ∀ j, w.cell? ⟨b, j, none⟩ = (nL p.x ++ (nL p.y ++ (nL p.z ++ nL p.t)))[j]? := by
    intro j
    rw [cell_of_row w b j _ T _ h]; simp [pA, ptA, nL]
  have l4 : ∀ n, (nL n).length = 4 := fun _ => rfl
  refine ⟨?_, ?_, ?_, ?_⟩
  · intro j v hv
    have hj := (List.getElem?_eq_some_iff.1 hv).1
    rw [Nat.zero_add, key, List.getElem?_append_left hj]; exact hv
  · intro j v hv
    have hj := (List.getElem?_eq_some_iff.1 hv).1
    rw [key, List.getElem?_append_right (by rw [l4]; omega), List.getElem?_append_left (by have h1 := l4 p.x; have h2 := l4 p.y; have h3 := l4 p.z; omega), l4, Nat.add_sub_cancel_left]; exact hv
  · intro j v hv
    have hj := (List.getElem?_eq_some_iff.1 hv).1
    rw [key, List.getElem?_append_right (by rw [l4]; omega), l4, List.getElem?_append_right (by rw [l4]; omega), l4, List.getElem?_append_left (by have h1 := l4 p.x; have h2 := l4 p.y; have h3 := l4 p.z; omega), show 8 + j - 4 - 4 = j by omega]; exact hv
  · intro j v hv
    rw [key, List.getElem?_append_right (by rw [l4]; omega), l4, List.getElem?_append_right (by rw [l4]; omega), l4, List.getElem?_append_right (by rw [l4]; omega), l4, show 12 + j - 4 - 4 - 4 = j by omega]; exact hv
theorem partsA (e f g h : Nat) (he : e < P) (hf : f < P) (hg : g < P) (hh : h < P) (w : World) :
    Calls Tryd.prog 46 #[.agg (num4A e), .agg (num4A f), .agg (num4A g), .agg (num4A h)] w fun e' w' => e' = .returned (.agg (pA (partsP e f g h))) ∧ Below w.heap.size w w' := feParts e f g h he hf hg hh w
theorem hrunTimes {a : Act} {o : Oper} (x y : Operand) (ho : o.op = .call { callee := .value (.func 44), args := #[x, y], argTypes := #[42, 42] }) (v1 v2 : Value) (hx : a.eval x = v1) (hy : a.eval y = v2) (w : World) :
    (execOp a.eval o).run Tryd.prog w = .ok (.enter 44 #[v1, v2]) w := by
  unfold execOp
  simp only [ho]
  subst hx hy
  go_simp
theorem hrunPlus {a : Act} {o : Oper} (x y : Operand) (ho : o.op = .call { callee := .value (.func 45), args := #[x, y], argTypes := #[42, 42] }) (v1 v2 : Value) (hx : a.eval x = v1) (hy : a.eval y = v2) (w : World) :
    (execOp a.eval o).run Tryd.prog w = .ok (.enter 45 #[v1, v2]) w := by
  unfold execOp
  simp only [ho]
  subst hx hy
  go_simp
theorem hrunMinus {a : Act} {o : Oper} (x y : Operand) (ho : o.op = .call { callee := .value (.func 43), args := #[x, y], argTypes := #[42, 42] }) (v1 v2 : Value) (hx : a.eval x = v1) (hy : a.eval y = v2) (w : World) :
    (execOp a.eval o).run Tryd.prog w = .ok (.enter 43 #[v1, v2]) w := by
  unfold execOp
  simp only [ho]
  subst hx hy
  go_simp
theorem hrunParts {a : Act} {o : Oper} (x y z t : Operand) (ho : o.op = .call { callee := .value (.func 46), args := #[x, y, z, t], argTypes := #[42, 42, 42, 42] }) (v1 v2 v3 v4 : Value) (hx : a.eval x = v1) (hy : a.eval y = v2) (hz : a.eval z = v3) (ht : a.eval t = v4) (w : World) :
    (execOp a.eval o).run Tryd.prog w = .ok (.enter 46 #[v1, v2, v3, v4]) w := by
  unfold execOp
  simp only [ho]
  subst hx hy hz ht
  go_simp
theorem hrunAllocE {a : Act} {o : Oper} (ho : o.op = .alloc 42) (w : World) :
    (execOp a.eval o).run Tryd.prog w = .ok (.value (.pointer (some ⟨w.heap.size, 0, none⟩))) (w.alloc (.cells (num4A 0) 42)) := by
  have hz := zeroE
  unfold execOp
  simp only [ho]
  go_simp
end Go.Proofs.YtemdlpcljjdfjaaDoor
