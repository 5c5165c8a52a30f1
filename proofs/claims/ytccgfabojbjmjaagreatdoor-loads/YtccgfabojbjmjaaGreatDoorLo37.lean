import Derived.MapKept
import Derived.Test.YtccgfabojbjmjaaGreatDoorLo36
import Derived.Test.YtccgfabojbjmjaaGreatDoorLo34
namespace Go.Proofs.YtccgfabojbjmjaaGreatDoor
open Go.RowKit
theorem qss : (E8 + 1) + (E8 + 1) = 1 + Qt := by decide +kernel
theorem qto : Qt + Qt = Hf := by decide +kernel
theorem qrT {t : Nat} (ht : t < P) (h : mP t t = 1) : t = 1 ∨ t = P - 1 := by
 have e : qp t * qp t = 1 := by rw [← ji, h, ZY]
 have e2 : (qp t - 1) * (qp t + 1) = 0 := by generalize qp t = x at *; grind
 by_cases h1 : qp t - 1 = 0
 ·
  left
  apply Yk ht (by decide)
  rw [ZY]
  generalize qp t = x at *; grind
 ·
  right
  have h2 : qp t + 1 = 0 := by
   by_cases h2 : qp t + 1 = 0
   · exact h2
   · exact absurd e2 (jN h1 h2)
  apply Yk ht (by decide)
  have e3 : qp (P - 1) + 1 = 0 := by
   rw [← ZY, ← Jf]; apply Fin.ext; decide +kernel
  generalize qp (P - 1) = m at *
  generalize qp t = x at *; grind
theorem qtf {w : Nat} (hw : w < P) : mP w (P - 1) = sP 0 w := by
 apply Yk (qK _ _) (jR _ _)
 have e3 : qp (P - 1) + 1 = 0 := by
  rw [← ZY, ← Jf]; apply Fin.ext; decide +kernel
 have e4 := YU hw
 rw [ji]
 generalize qp (P - 1) = m at *
 generalize qp (sP 0 w) = s at *
 generalize qp w = x at *; grind
theorem qjs {u v x : Nat} (hu : u < P) (hv : v < P) (h0 : v % P ≠ 0) (hx : x < P) (h : mP (mP x x) v = u) : QZ u v = true := by
 have hw : mP u (Qa v) = mP x x := by rw [← h, Y5, qdy h0, kj (qK _ _)]
 unfold QZ
 apply zN
 rw [qiO hu h0, qiu hu h0, qf4 hu hv h0, ← yd, qss, yd, qeT (qK _ _), hw, kq, ← yd, qto]
 by_cases hz : x = 0
 ·
  left
  subst hz
  have e0 : mP 0 0 = 0 := by decide +kernel
  have e1 : ∀ t, mP 0 t = 0 := fun t => by unfold mP; rw [Nat.zero_mul, Nat.zero_mod]
  rw [e0, e1]
 ·
  have hm : x % P ≠ 0 := by rw [z6 hx]; exact hz
  have ht : mP (jz x Hf) (jz x Hf) = 1 := by rw [← yd, qkM, show jz x (P - 1) = 1 from qee hm]
  rcases qrT (qpu _ _) ht with e | e
  · left; rw [e, kj (qK _ _)]
  · right; rw [e, qtf (qK _ _)]
theorem qnI {u v : Nat} (hu : u < P) (hb : QZ u v = true) : qp (QB u v) * qp (QB u v) * qp v = qp u := by
 unfold QZ at hb
 have hb := of_decide_eq_true hb
 unfold QB
 by_cases h1 : QM u v = u
 ·
  rw [if_pos h1]
  have e : qp (QM u v) = qp u := by rw [h1]
  unfold QM at e
  rw [ji, ji] at e
  exact e
 ·
  rw [if_neg h1]
  have h2 := hb.resolve_left h1
  rw [if_pos h2]
  have e : qp (QM u v) = qp (sP 0 u) := by rw [h2]
  unfold QM at e
  rw [ji, ji] at e
  rw [ji]
  have e1 := qrL
  have e2 := YU hu
  generalize qp (Jj u v) = t at *
  generalize qp Ql = r at *
  generalize qp (sP 0 u) = m at *
  generalize qp u = uu at *
  generalize qp v = vv at *
  grind
theorem qoa (r x v u : Fin P) (hv : v ≠ 0) (h1 : r * r * v = u) (h2 : x * x * v = u) : r = x ∨ r + x = 0 := by
 have e : (r - x) * (r + x) * v = 0 := by grind
 by_cases h : r - x = 0
 · left; grind
 ·
  right
  by_cases h3 : r + x = 0
  · exact h3
  · exact absurd e (jN (jN h h3) hv)
theorem quv {x y : Nat} (hx : x < P) (h : mP (mP x x) (vN y) = uN y) : QZ (uN y) (vN y) = true ∧ JH y (decide (x % 2 = 1)) = x := by
 have hu : uN y < P := jR _ _
 have hv : vN y < P := QF _ _
 have h0 := qn6 y
 have hb := qjs hu hv h0 hx h
 refine ⟨hb, ?_⟩
 have hr := qnI hu hb
 have hl := qca (uN y) (vN y)
 have hx2 : qp x * qp x * qp (vN y) = qp (uN y) := by rw [← h, ji, ji]
 have hv0 : qp (vN y) ≠ 0 := by
  intro e
  have := (qa1 hv).1 e
  rw [this] at h0
  exact h0 rfl
 unfold JH
 generalize QB (uN y) (vN y) = r at *
 rcases qoa _ _ _ _ hv0 hr hx2 with e | e
 ·
  have e2 : r = x := Yk hl hx e
  subst e2
  rw [if_neg (by simp)]
 ·
  have e3 : r = sP 0 x := by
   apply Yk hl (jR _ _)
   have e4 := YU hx
   generalize qp (sP 0 x) = m at *
   generalize qp r = rr at *
   generalize qp x = xx at *
   grind
  by_cases hz : x = 0
  ·
   subst hz
   rw [qn1] at e3
   subst e3
   decide
  ·
   have hp := ql0 hx hz
   have hne : (decide (r % 2 = 1) != decide (x % 2 = 1)) = true := by
    rw [e3]
    by_cases h1 : x % 2 = 1
    · rw [zN h1, zD (by rw [hp]; omega)]; rfl
    · rw [zD h1, zN (by rw [hp]; omega)]; rfl
   rw [if_pos hne, e3]
   apply Yk (jR _ _) hx
   have e5 := YU (jR 0 x)
   have e6 := YU hx
   generalize qp (sP 0 (sP 0 x)) = m at *
   generalize qp (sP 0 x) = n at *
   generalize qp x = xx at *
   grind
def cdG (a : G) : Nat := Qp a.y.val (decide (a.x.val % 2 = 1))
theorem qkS {y : Nat} (hy : y < P) (odd : Bool) : ZS (Qp y odd) = y := by
 unfold ZS Qp; rw [Zw] at hy; cases odd <;> simp <;> omega
theorem qmh {y : Nat} (hy : y < P) (odd : Bool) : km (Qp y odd) = odd := by
 unfold km Qp; rw [Zw] at hy; cases odd <;> simp <;> omega
theorem qs3 (d x y : Fin P) (h : y * y = 1 + x * x + d * (x * x) * (y * y)) : x * x * (y * y * d + 1) = y * y - 1 := by grind
theorem qtP (a : G) : mP (mP a.x.val a.x.val) (vN a.y.val) = uN a.y.val := by
 have hu : uN a.y.val < P := jR _ _
 apply Yk (qK _ _) hu
 have h := qs3 dK a.x a.y a.on
 rw [ji, ji, qcs]
 have e1 : qp (vN a.y.val) = a.y * a.y * dK + 1 := by
  unfold vN dK; rw [Jf, ji, ji, ZY, qcs]
 have e2 : qp (uN a.y.val) = a.y * a.y - 1 := by
  unfold uN; rw [J6 _ _ Yu, ji, ZY, qcs]
 rw [e1, e2]; exact h
theorem qh5 (a : G) : jg (cdG a) = true ∧ Qh (cdG a) = Yg a.x.val a.y.val := by
 obtain ⟨hb, hx⟩ := quv a.x.isLt (qtP a)
 have hy := a.y.isLt
 have o1 : Yc a.y.val = true := by unfold Yc; exact zN hy
 have o2 : Zu a.y.val = a.y.val := by unfold Zu; rw [if_pos hy]
 have h1 : jg (cdG a) = true := by
  unfold jg cdG
  rw [qkS hy, qmh hy, o1, o2, Bool.true_and]
  unfold y5
  rw [if_pos hb, hx]
  simp
 refine ⟨h1, ?_⟩
 unfold Qh
 rw [if_pos h1]
 unfold cdG
 rw [qkS hy, qmh hy, o2]
 unfold yG
 rw [if_pos hb, hx]
theorem qnA {a b : G} (h : cdG a = cdG b) : a = b := by
 have e1 := (qh5 a).2
 have e2 := (qh5 b).2
 rw [h] at e1
 have e3 : Yg a.x.val a.y.val = Yg b.x.val b.y.val := e1.symm.trans e2
 exact G.ext' (Fin.ext (congrArg Pt.x e3)) (Fin.ext (congrArg Pt.y e3))
theorem qtB : ∃ b : G, RP qX b := by
 obtain ⟨x, y, hx, hy, ho, e⟩ := qoU qrr
 exact ⟨⟨qp x, qp y, ho⟩, by rw [← qlf, e]; exact qsn hx hy ho⟩
noncomputable def bG : G := Classical.choose qtB
theorem qrZ : RP qX bG := Classical.choose_spec qtB
theorem qgD {a b c : G} (h : jr a b = jr a c) : b = c := by
 have e : jr (Jy a) (jr a b) = jr (Jy a) (jr a c) := by rw [h]
 rw [← qav, ← qav, qci (Jy a) a, qcV, qc9, qc9] at e
 exact e
theorem qdX {a b : G} (h : jr a b = g0) : b = Jy a := qgD (h.trans (qcV a).symm)
theorem qny (a b : G) : Jy (jr a b) = jr (Jy a) (Jy b) := by
 refine (qdX ?_).symm
 rw [qj6, qcV, qcV, qb7]
theorem qlM : Jy g0 = g0 := (qdX (qb7 g0)).symm
theorem qnB (k : Nat) (a : G) : Zx k (Jy a) = Jy (Zx k a) := by
 induction k with
 | zero => exact qlM.symm
 | succ k ih => rw [qbf, qbf, ih, qny]
noncomputable def vfG (s k : Nat) (a : G) : G := jr (Zx s bG) (Jy (Zx k a))
theorem qvQ (p : Q3) : (qL p).toArray = qA p := rfl
theorem qrx (p : Q3) : (Tryz.prog.info? 98).map (·.size) = some (qL p).length := by rw [qip]; exact qtk
theorem qml {w : World} {b : Nat} {p : Q3} {T : TypeId} {fr : Nat × Nat} (h : w.heap[b]? = some (.cells (qA p) T fr)) : w.rangeAt b 0 (qL p) := by
 intro j v hv
 rw [Zb, zj w b j _ T _ h, ← qvQ, zV]
 exact hv
theorem qv0 {ops : Array Oper} {S : World → Prop} {op : Oper} {a : Act} (hw : Region.wanted op (yielded ops a.tmps) = true) (x : Operand) (ho : op.op = .load 98 x)
  (b o : Nat) (p : Q3) (hx : a.eval x = .pointer (some ⟨b, o, none⟩)) (hS : ∀ w, S w → w.rangeAt b o (qL p)) : YieldsIf Tryz.prog ops S op (.agg (qA p)) a :=
 YE hw _ x ho b o hx (qL p) (qA p) rfl _ hS Tryz.underlying98 rfl (qrx p)
theorem QE {w : World} {b n : Nat} {T : TypeId} {fr : Nat × Nat} (h : w.heap[b]? = some (.cells (fA n) T fr)) : w.rangeAt b 0 (fL n) := by
 intro j v hv
 rw [Zb, zj w b j _ T _ h, show fA n = (fL n).toArray from rfl, zV]
 exact hv
theorem qat {a : Act} {o : Oper} (x y z : Operand) (ho : o.op = .call { callee := .value (.func 34), args := #[x, y, z], argTypes := #[95, 91, 98] }) (v1 v2 v3 : Value) (hx : a.eval x = v1) (hy : a.eval y = v2) (hz : a.eval z = v3) (w : World) :
  (execOp a.eval o).run Tryz.prog w = .ok (.enter 34 #[v1, v2, v3]) w := by
 unfold execOp
 simp only [ho]
 subst hx hy hz
 go_simp
theorem kT {a : Act} {o : Oper} (ho : o.op = .alloc 98) (w : World) :
  (execOp a.eval o).run Tryz.prog w = .ok (.value (zp w.heap.size 0)) (w.alloc (.cells (qA q0) 98)) := by
 have hz := qjZ
 unfold execOp
 simp only [ho]
 go_simp
theorem j9.bex {b : Nat} {w w' : World} (h : j9 w) (hx : qG b w w') (hb : 9 ≠ b) : j9 w' := fun i hi =>
 (zo (w := w) (hx.block 9 h.lt hb)).trans (h i hi)
theorem QT.bex {b : Nat} {w w' : World} (h : QT w) (hx : qG b w w') (hb : 6 ≠ b) : QT w' := by
 obtain ⟨t, f, e⟩ := h.row
 exact ⟨t, f, (hx.block _ (qh e) hb).trans e⟩
theorem Qq.bex {w w' : World} {b : Nat} (h : Qq w) (hb : qG b w w') (h7 : 13 ≤ b) : Qq w' := h.keepX hb h7
def meE (b : Nat) (x : Nat × Nat) : MapEntry := { key := .agg (bA x.1), val := .agg (jx b x.1 (Qj x.1)), born := x.2 }
def meL (b : Nat) (l : List (Nat × Nat)) : List MapEntry := l.map (meE b)
def QG (b : Nat) (l : List (Nat × Nat)) : Array MapEntry := (meL b l).toArray
abbrev ZL : Nat := 115792089237316195423570985008687907853269984665640564039457584007913129639936
theorem qjA : Tryz.prog.underlying 62 = some (.array 32 5) := by kernel_rfl
theorem qdU : Tryz.prog.underlying 117 = some (.map 62 153) := by kernel_rfl
theorem qqu (e : Bool) (m : Nat) (w : World) : (Instr.checkKey e 10000 62 (.agg (bA m))).run Tryz.prog w = .ok () w := by kernel_rfl
theorem qum (m n : Nat) (hm : m < ZL) (hn : n < ZL) (w : World) : (Op.equal 62 (.agg (bA m)) (.agg (bA n))).run Tryz.prog w = .ok (decide (m = n)) w := qkz m n hm hn w
def kB (m : Nat) : List (Nat × Nat) → Nat → Option Nat
 | [], _ => none
 | x :: l, i => if m = x.1 then some i else kB m l (i + 1)
theorem qeb (b m : Nat) (hm : m < ZL) (w : World) : ∀ (l : List (Nat × Nat)) (i : Nat), (∀ x ∈ l, x.1 < ZL) →
  (Instr.findAsking 62 (.agg (bA m)) (meL b l) i).run Tryz.prog w = .ok ((kB m l i).map (fun j => (j, Value.agg (jx b m (Qj m))))) w
 | [], i, _ => rfl
 | x :: l, i, h => by
  have hx := h x (List.mem_cons_self ..)
  have ih := qeb b m hm w l (i + 1) (fun y hy => h y (List.mem_cons_of_mem _ hy))
  have e := qum m x.1 hm hx w
  unfold kB
  show (Instr.findAsking 62 (.agg (bA m)) (meE b x :: meL b l) i).run Tryz.prog w = _
  unfold Instr.findAsking
  rw [Sem.run_bind, show (meE b x).key = .agg (bA x.1) from rfl, e, Result.andThen_ok]
  by_cases c : m = x.1
  · rw [zN c, if_pos c, if_pos rfl, show (meE b x).val = .agg (jx b x.1 (Qj x.1)) from rfl, ← c]; rfl
  · rw [zD c, if_neg c, if_neg (by decide)]; exact ih
theorem qdg (b m : Nat) (hm : m < ZL) (l : List (Nat × Nat)) (h : ∀ x ∈ l, x.1 < ZL) (w : World) :
  (Instr.findKey 62 (.agg (bA m)) (meL b l)).run Tryz.prog w = .ok ((kB m l 0).map (fun j => (j, Value.agg (jx b m (Qj m))))) w := by
 unfold Instr.findKey
 rw [Sem.run_bind, run_underlying qjA, Result.andThen_ok]
 cases l with
 | nil => rfl
 | cons x l => exact qeb b m hm w (x :: l) 0 h
theorem qeg {m : Nat} : ∀ {l : List (Nat × Nat)} {i : Nat}, (∃ x ∈ l, x.1 = m) → ∃ j, kB m l i = some j
 | x :: l, i, h => by
  unfold kB
  by_cases c : m = x.1
  · exact ⟨i, by rw [if_pos c]⟩
  ·
   rw [if_neg c]
   obtain ⟨y, hy, e⟩ := h
   refine qeg ⟨y, ?_, e⟩
   rcases List.mem_cons.1 hy with rfl | h2
   · exact absurd e.symm c
   · exact h2
theorem qco {m : Nat} : ∀ {l : List (Nat × Nat)} {i : Nat}, (∀ x ∈ l, x.1 ≠ m) → kB m l i = none
 | [], _, _ => rfl
 | x :: l, i, h => by
  unfold kB
  rw [if_neg (fun c => h x (List.mem_cons_self ..) c.symm)]
  exact qco (fun y hy => h y (List.mem_cons_of_mem _ hy))
theorem qgo (b m r clock : Nat) (hm : m < ZL) (l : List (Nat × Nat)) (h : ∀ x ∈ l, x.1 < ZL) (hx : ∃ x ∈ l, x.1 = m) (w : World) (hr : w.heap[r]? = some (.map (QG b l) clock)) :
  (Instr.lookup 117 (.map (some r)) (.agg (bA m)) true).run Tryz.prog w = .ok (.tuple #[.agg (jx b m (Qj m)), .bool true]) w := by
 obtain ⟨j, hj⟩ := qeg (i := 0) hx
 have e := qdg b m hm l h w
 rw [hj] at e
 simp [Instr.lookup, run_underlying qdU, MapKept.run_getObj_map hr, qqu, QG, e, Result.andThen]
theorem qgV (b m r clock : Nat) (hm : m < ZL) (l : List (Nat × Nat)) (h : ∀ x ∈ l, x.1 < ZL) (hx : ∀ x ∈ l, x.1 ≠ m) (w : World) (hr : w.heap[r]? = some (.map (QG b l) clock)) :
  (Instr.lookup 117 (.map (some r)) (.agg (bA m)) true).run Tryz.prog w = .ok (.tuple #[.agg jh, .bool false]) w := by
 have e := qdg b m hm l h w
 rw [qco hx] at e
 have hz := qdq w
 simp [Instr.lookup, run_underlying qdU, MapKept.run_getObj_map hr, qqu, QG, e, hz, Result.andThen]
theorem qgw (b m r clock : Nat) (hm : m < ZL) (l : List (Nat × Nat)) (h : ∀ x ∈ l, x.1 < ZL) (hx : ∀ x ∈ l, x.1 ≠ m) (w : World) (hr : w.heap[r]? = some (.map (QG b l) clock)) :
  (Instr.mapUpdate 117 (.map (some r)) (.agg (bA m)) (.agg (jx b m (Qj m)))).run Tryz.prog w = .ok () { w with heap := w.heap.setIfInBounds r (.map (QG b (l ++ [(m, clock)])) (clock + 1)) } := by
 have e := qdg b m hm l h w
 rw [qco hx] at e
 have e2 : (QG b l).push { key := .agg (bA m), val := .agg (jx b m (Qj m)), born := clock } = QG b (l ++ [(m, clock)]) := by simp [QG, meL, meE]
 simp [Instr.mapUpdate, run_underlying qdU, MapKept.run_getObj_map hr, qqu, QG, e, MapKept.run_setObj_map _ hr, Result.andThen]
 simpa [QG] using congrArg (fun z => ({ w with heap := w.heap.setIfInBounds r (.map z (clock + 1)) } : World)) e2
end Go.Proofs.YtccgfabojbjmjaaGreatDoor
