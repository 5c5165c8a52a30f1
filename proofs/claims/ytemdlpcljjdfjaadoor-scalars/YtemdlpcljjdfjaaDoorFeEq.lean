import Derived.Test.YtemdlpcljjdfjaaDoorPow2
import Derived.Laws.ResultCell
/- Numbers of the field, compared. -/
namespace Go.Proofs.YtemdlpcljjdfjaaDoor
open Go.RowKit
theorem sizeOf64 : (Tryd.prog.info? 40).map (·.size) = some 1 := by kernel_rfl
theorem under64' : Tryd.prog.underlying 40 = some (.int .u64) := by kernel_rfl
theorem part64 (xs : Array Value) (i : Nat) (x : Int) (h : xs[i]? = some (.int .u64 x)) (w : World) : (part 40 xs i).run Tryd.prog w = .ok (.int .u64 x) w := by
  cases hq : Tryd.prog.info? 40 with
  | none => have := sizeOf64; rw [hq] at this; cases this
  | some inf =>
    have hi : inf.size = 1 := by have := sizeOf64; rw [hq] at this; simpa using this
    simp [part, sizeOf, typeInfo, hq, hi, h]
theorem eqArr4 (a0 a1 a2 a3 b0 b1 b2 b3 : Nat) (w : World) :
    (Op.equalIn 10000 42 (.agg #[nv a0, nv a1, nv a2, nv a3]) (.agg #[nv b0, nv b1, nv b2, nv b3])).run Tryd.prog w = .ok (V a0 == V b0 && (V a1 == V b1 && (V a2 == V b2 && V a3 == V b3))) w := by
  cases hq : Tryd.prog.info? 40 with
  | none => have := sizeOf64; rw [hq] at this; cases this
  | some inf =>
    have hi : inf.size = 1 := by have := sizeOf64; rw [hq] at this; simpa using this
    rw [show (10000 : Nat) = 9998 + 1 + 1 from rfl]
    unfold Op.equalIn
    simp only [Sem.run_bind, run_underlying under33, Result.andThen_ok]
    simp [sizeOf, typeInfo, hq, hi, Std.Legacy.Range.forIn_eq_forIn_range']
    have p0 := part64 #[nv a0, nv a1, nv a2, nv a3] 0 (V a0) rfl w
    have p1 := part64 #[nv a0, nv a1, nv a2, nv a3] 1 (V a1) rfl w
    have p2 := part64 #[nv a0, nv a1, nv a2, nv a3] 2 (V a2) rfl w
    have p3 := part64 #[nv a0, nv a1, nv a2, nv a3] 3 (V a3) rfl w
    have q0 := part64 #[nv b0, nv b1, nv b2, nv b3] 0 (V b0) rfl w
    have q1 := part64 #[nv b0, nv b1, nv b2, nv b3] 1 (V b1) rfl w
    have q2 := part64 #[nv b0, nv b1, nv b2, nv b3] 2 (V b2) rfl w
    have q3 := part64 #[nv b0, nv b1, nv b2, nv b3] 3 (V b3) rfl w
    have e := fun x y : Int => run_equalIn_int (P := Tryd.prog) w 9998 40 .u64 .u64 x y under64'
    generalize V a0 = x0 at *
    generalize V a1 = x1 at *
    generalize V a2 = x2 at *
    generalize V a3 = x3 at *
    generalize V b0 = y0 at *
    generalize V b1 = y1 at *
    generalize V b2 = y2 at *
    generalize V b3 = y3 at *
    by_cases h0 : x0 = y0 <;> by_cases h1 : x1 = y1 <;> by_cases h2 : x2 = y2 <;> by_cases h3 : x3 = y3 <;>
      simp [List.range', List.forIn_cons, p0, p1, p2, p3, q0, q1, q2, q3, e, h0, h1, h2, h3]
/-- Two numbers of the field held against one another. -/
theorem wd_inj {a b : Nat} (ha : a < P) (hb : b < P) (h0 : wd a 0 = wd b 0) (h1 : wd a 1 = wd b 1) (h2 : wd a 2 = wd b 2) (h3 : wd a 3 = wd b 3) : a = b := by
  have la : a < 57896044618658097711785492504343953926634992332820282019728792003956564819949 := ha
  have lb : b < 57896044618658097711785492504343953926634992332820282019728792003956564819949 := hb
  unfold wd at *
  simp only [Nat.reducePow, Nat.pow_zero, Nat.div_one] at *
  omega
theorem feEq (a b : Nat) (ha : a < P) (hb : b < P) (w : World) :
    (Op.equalIn 10000 42 (.agg #[nv (wd a 0), nv (wd a 1), nv (wd a 2), nv (wd a 3)]) (.agg #[nv (wd b 0), nv (wd b 1), nv (wd b 2), nv (wd b 3)])).run Tryd.prog w = .ok (decide (a = b)) w := by
  rw [eqArr4]
  congr 1
  have vi : ∀ x y : Nat, (V x == V y) = decide (x = y) := by
    intro x y; unfold V
    by_cases h : x = y
    · subst h; simp
    · simp [h]; omega
  simp only [vi]
  by_cases h : a = b
  · subst h; simp
  · simp only [h, decide_false]
    by_cases h0 : wd a 0 = wd b 0 <;> by_cases h1 : wd a 1 = wd b 1 <;> by_cases h2 : wd a 2 = wd b 2 <;> by_cases h3 : wd a 3 = wd b 3 <;> simp [h0, h1, h2, h3]
    exact h (wd_inj ha hb h0 h1 h2 h3)
theorem feEq' (a b : Nat) (ha : a < P) (hb : b < P) (w : World) : (Op.equalIn 10000 42 (.agg #[nv (wd a 0), nv (wd a 1), nv (wd a 2), nv (wd a 3)]) (fe b)).run Tryd.prog w = .ok (decide (a = b)) w := feEq a b ha hb w
theorem results_cell_tmp_row {P : Program} {fn : Func} {p u : Tmp} {ty : TypeId} (h : fn.results = #[.cell p ty, .tmp u]) (tmps : Array Value) (w : World) (g : Nat) (t : TypeId) (cs : Array Value) (fr : Nat × Nat) (d : TypeDesc)
    (hp : tmps.getD p undef = .pointer (some ⟨g, 0, none⟩)) (hg : w.heap[g]? = some (.cells cs t fr))
    (hu : P.underlying ty = some d) (hd : (match d with | .struct _ | .array _ _ => true | _ => false) = true) (hi : (P.info? ty).map (·.size) = some cs.size) :
    (results fn tmps).run P w = .ok (.tuple #[.agg cs, tmps.getD u undef]) w := by
  rw [results_cell_tmp h, hp]
  simp [asAddr, run_loadVar_row w g t ty cs fr d hg hu hd hi]
theorem num4A_zero : num4A 0 = zero4 := by unfold num4A wd; rfl
theorem zero4_all : zero4.all (·.oneCell') = true := w4_cell 0 0 0 0
theorem feMinus0 (b : Nat) (hb : b < P) (w : World) :
    Calls Tryd.prog 43 #[.agg zero4, .agg #[nv (wd b 0), nv (wd b 1), nv (wd b 2), nv (wd b 3)]] w fun e w' => e = .returned (fe (sP 0 b)) ∧ Below w.heap.size w w' := by
  have := feMinus 0 b P_pos hb w
  unfold fe at this
  rw [num4A_zero] at this
  exact this
end Go.Proofs.YtemdlpcljjdfjaaDoor
