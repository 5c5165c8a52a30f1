import Derived.Test.YtccgfabojbjmjaaGreatDoorPx19
import Derived.Test.YtccgfabojbjmjaaGreatDoorPx16
import Derived.Deep.RegionHeld3
namespace Go.Proofs.YtccgfabojbjmjaaGreatDoor
open Go.RowKit
def Hf : Nat := 28948022309329048855892746252171976963317496166410141009864396001978282409974
theorem Hf_two : Hf + Hf = P - 1 := by decide +kernel
theorem pw_of_pm (a e c f : Nat) (he : e < 2 ^ f) (h : pm P f a e = c) : pwP a e = c := (pm_eq P f a e he).symm.trans h
theorem dN_Hf : pwP dN Hf = P - 1 := pw_of_pm dN Hf (P - 1) 255 (by decide +kernel) (by decide +kernel)
theorem neg_Hf : pwP (P - 1) Hf = 1 := pw_of_pm (P - 1) Hf 1 255 (by decide +kernel) (by decide +kernel)
theorem vN_ne (y : Nat) : vN y % P ≠ 0 := by
 intro h
 have hlt : vN y < P := aP_lt _ _
 rw [Nat.mod_eq_of_lt hlt] at h
 have e : mP (mP y y) dN = P - 1 := by
  have hl := mP_lt (mP y y) dN
  unfold vN aP at h
  generalize mP (mP y y) dN = a at *
  rw [P_val] at *
  omega
 by_cases hy : y % P = 0
 ·
  have e0 : mP y y = 0 := by unfold mP; rw [Nat.mul_mod, hy]; rfl
  rw [e0] at e
  have e1 : mP 0 dN = 0 := by unfold mP; rw [Nat.zero_mul]; rfl
  rw [e1] at e
  have : 0 ≠ P - 1 := by decide
  exact this e
 ·
  have e2 : pwP (mP (mP y y) dN) Hf = 1 := by rw [e, neg_Hf]
  rw [pwP_mP, pwP_mP, ← pwP_add, Hf_two, show pwP y (P - 1) = 1 from fermat hy, dN_Hf] at e2
  have e3 : mP 1 (P - 1) = P - 1 := by decide
  rw [e3] at e2
  have : P - 1 ≠ 1 := by decide
  exact this e2
end Go.Proofs.YtccgfabojbjmjaaGreatDoor
namespace Go.Proofs.YtccgfabojbjmjaaGreatDoor
open Go.RowKit
instance nzP : NeZero P := ⟨by decide⟩
def tau (n : Nat) : Fin P := Fin.ofNat P n
theorem tau_inj {a b : Nat} (ha : a < P) (hb : b < P) (h : tau a = tau b) : a = b := by
 have := congrArg Fin.val h
 simp only [tau, Fin.val_ofNat] at this
 rw [Nat.mod_eq_of_lt ha, Nat.mod_eq_of_lt hb] at this
 exact this
theorem tau_mP (a b : Nat) : tau (mP a b) = tau a * tau b := by
 apply Fin.ext
 simp only [tau, Fin.val_ofNat, Fin.val_mul, mP]
 rw [Nat.mod_mod, Nat.mul_mod]
theorem tau_aP (a b : Nat) : tau (aP a b) = tau a + tau b := by
 apply Fin.ext
 simp only [tau, Fin.val_ofNat, Fin.val_add, aP]
 rw [Nat.mod_mod, Nat.add_mod]
theorem tau_sP (a b : Nat) (hb : b < P) : tau (sP a b) = tau a - tau b := by
 have h : tau (sP a b) + tau b = tau a := by
  rw [← tau_aP]
  apply Fin.ext
  simp only [tau, Fin.val_ofNat, aP, sP]
  rw [P_val] at *
  omega
 grind
theorem tau_zero : tau 0 = 0 := rfl
theorem tau_one : tau 1 = 1 := by apply Fin.ext; decide
theorem tau_zero_iff {a : Nat} (ha : a < P) : tau a = 0 ↔ a = 0 := by
 constructor
 · intro h; exact tau_inj ha P_pos (h.trans tau_zero.symm)
 · intro h; rw [h]; rfl
def tdN : Nat := 16295367250680780974490674513165176452449235426866156013048779062215315747161
theorem tdN_lt : tdN < P := by decide
theorem tdN_eq : tdN = aP dN dN := by decide
structure Pt where
 x : Nat
 y : Nat
 z : Nat
 t : Nat
structure Pt.Ok (p : Pt) : Prop where
 x : p.x < P
 y : p.y < P
 z : p.z < P
 t : p.t < P
def partsP (e f g h : Nat) : Pt := ⟨mP e f, mP g h, mP f g, mP e h⟩
theorem partsP_ok (e f g h : Nat) : (partsP e f g h).Ok := ⟨mP_lt _ _, mP_lt _ _, mP_lt _ _, mP_lt _ _⟩
def aA (p q : Pt) : Nat := mP (sP p.y p.x) (sP q.y q.x)
def bB (p q : Pt) : Nat := mP (aP p.y p.x) (aP q.y q.x)
def cC (p q : Pt) : Nat := mP (mP p.t tdN) q.t
def zZ (p q : Pt) : Nat := mP p.z q.z
def addP (p q : Pt) : Pt := partsP (sP (bB p q) (aA p q)) (sP (aP (zZ p q) (zZ p q)) (cC p q)) (aP (aP (zZ p q) (zZ p q)) (cC p q)) (aP (bB p q) (aA p q))
structure Q3 where
 x : Nat
 y : Nat
 z : Nat
def ptOf (x y : Nat) : Pt := ⟨x, y, 1, mP x y⟩
theorem tau_tdN : tau tdN = tau dN + tau dN := by rw [tdN_eq, tau_aP]
def codeX (x z : Nat) : Nat := mP x (invN z)
def Qt : Nat := 14474011154664524427946373126085988481658748083205070504932198000989141204987
theorem rmN_pw : pwP 2 Qt = rmN := pw_of_pm 2 Qt rmN 255 (by decide +kernel) (by decide +kernel)
theorem rmN_sq : mP rmN rmN = P - 1 := by decide +kernel
theorem neg_sq (x r a m : Fin P) (e : r * r + 1 = 0) (h : x * r * (x * r) = a) (hm : m + a = 0) : x * x = m := by grind
theorem neg_sq' (x r a m : Fin P) (e : r * r + 1 = 0) (h : x * x = m) (hm : m + a = 0) : x * r * (x * r) = a := by grind
theorem rm_e : tau rmN * tau rmN + 1 = 0 := by
 rw [← tau_mP, rmN_sq]; apply Fin.ext; decide +kernel
theorem opp_e {a : Nat} (ha : a < P) : tau (sP 0 a) + tau a = 0 := by
 rw [tau_sP _ _ ha, tau_zero]; generalize tau a = x; grind
theorem test_doc {x a : Nat} (ha : a < P) : mP (mP x rmN) (mP x rmN) = a ↔ mP x x = sP 0 a := by
 constructor
 ·
  intro h
  apply tau_inj (mP_lt _ _) (sP_lt _ _)
  rw [tau_mP]
  refine neg_sq _ (tau rmN) (tau a) _ rm_e ?_ (opp_e ha)
  rw [← tau_mP, ← tau_mP, h]
 ·
  intro h
  apply tau_inj (mP_lt _ _) ha
  rw [tau_mP, tau_mP]
  refine neg_sq' _ (tau rmN) (tau a) _ rm_e ?_ (opp_e ha)
  rw [← tau_mP, h]
theorem opp_val {x : Nat} (h0 : x ≠ 0) : sP 0 x = P - x := by
 unfold sP
 rw [Nat.zero_add, Nat.mod_eq_of_lt (Nat.sub_lt P_pos (by omega))]
theorem opp_odd {x : Nat} (hx : x < P) (h0 : x ≠ 0) : sP 0 x % 2 = 1 ↔ x % 2 = 0 := by
 rw [opp_val h0]
 obtain ⟨k, hk⟩ : ∃ k, P = 2 * k + 1 := ⟨28948022309329048855892746252171976963317496166410141009864396001978282409974, by decide +kernel⟩
 rw [hk]
 rw [hk] at hx
 omega
theorem opp_zero : sP 0 0 = 0 := by decide +kernel
section
variable {P : Program} {ops : Array Oper} {S : World → Prop}
theorem yld_load {op : Oper} {a : Act} (hw : Region.wanted op (yielded ops a.tmps) = true) (ty : TypeId) (x : Operand) (ho : op.op = .load ty x)
  (b o : Nat) (hx : a.eval x = .pointer (some ⟨b, o, none⟩)) (cs : List Value) (V : Array Value) (hV : cs.toArray = V) (d : TypeDesc) (hS : ∀ w, S w → w.rangeAt b o cs)
  (hu : P.underlying ty = some d) (hd : d.isRow = true) (hi : (P.info? ty).map (·.size) = some cs.length) : YieldsIf P ops S op (.agg V) a := by
 subst hV
 exact yieldsIf_load_mid hw ty x ho b o hx cs d hS hu hd hi
theorem yld_build {op : Oper} {a : Act} (hw : Region.wanted op (yielded ops a.tmps) = true) (t : TypeId) (parts : Array (Nat × Operand)) (ho : op.op = .build t parts) (cells : Array Value)
  (hb : P.built t (parts.map fun (i, x) => (i, a.eval x)).toList = some cells) : YieldsIf P ops S op (.agg cells) a := by
 refine .inl ⟨hw, fun w _ => ?_⟩
 unfold execOp
 simp only [ho, Sem.run_bind, run_build w t _ cells hb, Result.andThen_ok]
 rfl
theorem step_callTo {o : Oper} {a : Act} {w : World} {K : Act → World → Prop} {Q : Exit → Act → World → Prop} {E : Prop} (hgd : o.guard = none) (f : FuncId) (args : Array Value)
  (hrun : (execOp a.eval o).run P w = .ok (.enter f args) w) (v : Value) (R : World → Prop) (hc : Calls P f args w fun e w' => e = .returned v ∧ R w') (h : ∀ w', R w' → K (a.put o.dst v) w') :
  if Region.wanted o (yielded ops a.tmps) = true then Oper.wp P o a w K Q else E := by
 rw [if_pos (by simp [Region.wanted, hgd])]
 unfold Oper.wp
 rw [hrun, Oper.upon_enter]
 exact hc.mono (fun e w' hh => by obtain ⟨rfl, hR⟩ := hh; exact h w' hR)
theorem step_runTo {o : Oper} {a : Act} {w w' : World} {K : Act → World → Prop} {Q : Exit → Act → World → Prop} {E : Prop} (hgd : o.guard = none) (v : Value)
  (hrun : (execOp a.eval o).run P w = .ok (.value v) w') (h : K (a.put o.dst v) w') :
  if Region.wanted o (yielded ops a.tmps) = true then Oper.wp P o a w K Q else E := by
 rw [if_pos (by simp [Region.wanted, hgd])]
 unfold Oper.wp
 rw [hrun, Oper.upon_value]
 exact h
end
theorem range_set {w : World} {b o g : Nat} {cs : List Value} {new : Array Value} (h : w.rangeAt b o cs) (hne : b ≠ g) : (w.setRow g new).rangeAt b o cs :=
 fun j v hv => (World.cell?_of_block (setRow_other _ _ _ _ hne)).trans (h j v hv)
def q0 : Q3 := ⟨0, 0, 0⟩
theorem yld_build' {ops : Array Oper} {S : World → Prop} {op : Oper} {a : Act} (hw : Region.wanted op (yielded ops a.tmps) = true) (t : TypeId) (parts : Array (Nat × Operand)) (ho : op.op = .build t parts) (cells : Array Value) (ps : List (Nat × Value))
  (hp : (parts.map fun (i, x) => (i, a.eval x)).toList = ps) (hb : Tryz.prog.built t ps = some cells) : YieldsIf Tryz.prog ops S op (.agg cells) a := yld_build hw t parts ho cells (by rw [hp]; exact hb)
def nL (n : Nat) : List Value := [nv (wd n 0), nv (wd n 1), nv (wd n 2), nv (wd n 3)]
theorem nL_size (n : Nat) : (Tryz.prog.info? 80).map (·.size) = some (nL n).length := size33
theorem rangeN {w : World} {b n : Nat} {T : TypeId} {fr : Nat × Nat} (h : w.heap[b]? = some (.cells (num4A n) T fr)) : w.rangeAt b 0 (nL n) := by
 intro j v hv
 rw [Nat.zero_add, cell_of_row w b j _ T _ h]
 show ((nL n).toArray)[j]? = some v
 simpa using hv
theorem yldN {ops : Array Oper} {S : World → Prop} {op : Oper} {a : Act} (hw : Region.wanted op (yielded ops a.tmps) = true) (x : Operand) (ho : op.op = .load 80 x)
  (b o n : Nat) (hx : a.eval x = .pointer (some ⟨b, o, none⟩)) (hS : ∀ w, S w → w.rangeAt b o (nL n)) : YieldsIf Tryz.prog ops S op (.agg (num4A n)) a :=
 yld_load hw _ x ho b o hx (nL n) (num4A n) rfl _ hS under33 rfl (nL_size n)
theorem n4_old (m n : Nat) : (num4A m).size = (num4A n).size := rfl
theorem foldN (n : Nat) : Value.agg (nL n).toArray = .agg (num4A n) := rfl
def pA (p : Pt) : Array Value := ptA p.x p.y p.z p.t
def p0 : Pt := ⟨0, 0, 0, 0⟩
theorem pA_size (p : Pt) : (Tryz.prog.info? 82).map (·.size) = some (pA p).size := ptA_size _ _ _ _
theorem pA_old (p q : Pt) : (pA p).size = (pA q).size := rfl
theorem pA_all (p : Pt) : (pA p).all (·.oneCell') = true := ptA_all _ _ _ _
theorem zeroP (w : World) : (zeroValue 82).run Tryz.prog w = .ok (.agg (pA p0)) w := by kernel_rfl
theorem zeroE (w : World) : (zeroValue 80).run Tryz.prog w = .ok (.agg (num4A 0)) w := by kernel_rfl
theorem rangeP {w : World} {b : Nat} {p : Pt} {T : TypeId} {fr : Nat × Nat} (h : w.heap[b]? = some (.cells (pA p) T fr)) : w.rangeAt b 0 (nL p.x) ∧ w.rangeAt b 4 (nL p.y) ∧ w.rangeAt b 8 (nL p.z) ∧ w.rangeAt b 12 (nL p.t) := by
 have key : ∀ j, w.cell? ⟨b, j, none⟩ = (nL p.x ++ (nL p.y ++ (nL p.z ++ nL p.t)))[j]? := by
  intro j
  rw [cell_of_row w b j _ T _ h]; simp [pA, ptA, nL]
 have l4 : ∀ n, (nL n).length = 4 := fun _ => rfl
 refine ⟨?_, ?_, ?_, ?_⟩
 ·
  intro j v hv
  have hj := (List.getElem?_eq_some_iff.1 hv).1
  rw [Nat.zero_add, key, List.getElem?_append_left hj]; exact hv
 ·
  intro j v hv
  have hj := (List.getElem?_eq_some_iff.1 hv).1
  rw [key, List.getElem?_append_right (by rw [l4]; omega), List.getElem?_append_left (by have h1 := l4 p.x; have h2 := l4 p.y; have h3 := l4 p.z; omega), l4, Nat.add_sub_cancel_left]; exact hv
 ·
  intro j v hv
  have hj := (List.getElem?_eq_some_iff.1 hv).1
  rw [key, List.getElem?_append_right (by rw [l4]; omega), l4, List.getElem?_append_right (by rw [l4]; omega), l4, List.getElem?_append_left (by have h1 := l4 p.x; have h2 := l4 p.y; have h3 := l4 p.z; omega), show 8 + j - 4 - 4 = j by omega]; exact hv
 ·
  intro j v hv
  rw [key, List.getElem?_append_right (by rw [l4]; omega), l4, List.getElem?_append_right (by rw [l4]; omega), l4, List.getElem?_append_right (by rw [l4]; omega), l4, show 12 + j - 4 - 4 - 4 = j by omega]; exact hv
theorem partsA (e f g h : Nat) (he : e < P) (hf : f < P) (hg : g < P) (hh : h < P) (w : World) :
  Calls Tryz.prog 121 #[.agg (num4A e), .agg (num4A f), .agg (num4A g), .agg (num4A h)] w fun e' w' => e' = .returned (.agg (pA (partsP e f g h))) ∧ Below w.heap.size w w' := feParts e f g h he hf hg hh w
theorem hrunTimes {a : Act} {o : Oper} (x y : Operand) (ho : o.op = .call { callee := .value (.func 93), args := #[x, y], argTypes := #[80, 80] }) (v1 v2 : Value) (hx : a.eval x = v1) (hy : a.eval y = v2) (w : World) :
  (execOp a.eval o).run Tryz.prog w = .ok (.enter 93 #[v1, v2]) w := by
 unfold execOp
 simp only [ho]
 subst hx hy
 go_simp
theorem hrunPlus {a : Act} {o : Oper} (x y : Operand) (ho : o.op = .call { callee := .value (.func 120), args := #[x, y], argTypes := #[80, 80] }) (v1 v2 : Value) (hx : a.eval x = v1) (hy : a.eval y = v2) (w : World) :
  (execOp a.eval o).run Tryz.prog w = .ok (.enter 120 #[v1, v2]) w := by
 unfold execOp
 simp only [ho]
 subst hx hy
 go_simp
theorem hrunMinus {a : Act} {o : Oper} (x y : Operand) (ho : o.op = .call { callee := .value (.func 119), args := #[x, y], argTypes := #[80, 80] }) (v1 v2 : Value) (hx : a.eval x = v1) (hy : a.eval y = v2) (w : World) :
  (execOp a.eval o).run Tryz.prog w = .ok (.enter 119 #[v1, v2]) w := by
 unfold execOp
 simp only [ho]
 subst hx hy
 go_simp
theorem hrunParts {a : Act} {o : Oper} (x y z t : Operand) (ho : o.op = .call { callee := .value (.func 121), args := #[x, y, z, t], argTypes := #[80, 80, 80, 80] }) (v1 v2 v3 v4 : Value) (hx : a.eval x = v1) (hy : a.eval y = v2) (hz : a.eval z = v3) (ht : a.eval t = v4) (w : World) :
  (execOp a.eval o).run Tryz.prog w = .ok (.enter 121 #[v1, v2, v3, v4]) w := by
 unfold execOp
 simp only [ho]
 subst hx hy hz ht
 go_simp
theorem hrunAllocE {a : Act} {o : Oper} (ho : o.op = .alloc 80) (w : World) :
  (execOp a.eval o).run Tryz.prog w = .ok (.value (.pointer (some ⟨w.heap.size, 0, none⟩))) (w.alloc (.cells (num4A 0) 80)) := by
 have hz := zeroE
 unfold execOp
 simp only [ho]
 go_simp
theorem kPx {w v : World} {b : Nat} {p : Pt} {T : TypeId} {fr : Nat × Nat} (R : Hid (w.heap[b]? = some (.cells (pA p) T fr))) (K : Hid (Below w.heap.size w v)) : v.rangeAt b 0 (nL p.x) := range_below (rangeP R.out).1 K.out (lt_row R.out)
theorem kPy {w v : World} {b : Nat} {p : Pt} {T : TypeId} {fr : Nat × Nat} (R : Hid (w.heap[b]? = some (.cells (pA p) T fr))) (K : Hid (Below w.heap.size w v)) : v.rangeAt b 4 (nL p.y) := range_below (rangeP R.out).2.1 K.out (lt_row R.out)
theorem kPz {w v : World} {b : Nat} {p : Pt} {T : TypeId} {fr : Nat × Nat} (R : Hid (w.heap[b]? = some (.cells (pA p) T fr))) (K : Hid (Below w.heap.size w v)) : v.rangeAt b 8 (nL p.z) := range_below (rangeP R.out).2.2.1 K.out (lt_row R.out)
theorem kPt {w v : World} {b : Nat} {p : Pt} {T : TypeId} {fr : Nat × Nat} (R : Hid (w.heap[b]? = some (.cells (pA p) T fr))) (K : Hid (Below w.heap.size w v)) : v.rangeAt b 12 (nL p.t) := range_below (rangeP R.out).2.2.2 K.out (lt_row R.out)
theorem kNm {w v : World} {b n : Nat} {T : TypeId} {fr : Nat × Nat} (R : Hid (w.heap[b]? = some (.cells (num4A n) T fr))) (K : Hid (Below w.heap.size w v)) : v.rangeAt b 0 (nL n) := range_below (rangeN R.out) K.out (lt_row R.out)
theorem kTr {w v u : World} (K : Hid (Below w.heap.size w v)) (h : Below v.heap.size v u) : Hid (Below w.heap.size w u) := K.out.trans (h.mono K.out.size)
theorem kAl {w v : World} (K : Hid (Below w.heap.size w v)) (o : Obj) : Hid (Below w.heap.size w (v.alloc o)) := K.out.alloc K.out.size _
end Go.Proofs.YtccgfabojbjmjaaGreatDoor
