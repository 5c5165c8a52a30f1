import Derived.Test.YtemdlpcljjdfjaaDoorFeEq
/- curve.fromParts. Made by program (genpt.py). -/
namespace Go.Proofs.YtemdlpcljjdfjaaDoor
open Go.RowKit
/-- A point's sixteen words. -/
def ptA (x y z t : Nat) : Array Value := #[nv (wd x 0), nv (wd x 1), nv (wd x 2), nv (wd x 3), nv (wd y 0), nv (wd y 1), nv (wd y 2), nv (wd y 3), nv (wd z 0), nv (wd z 1), nv (wd z 2), nv (wd z 3), nv (wd t 0), nv (wd t 1), nv (wd t 2), nv (wd t 3)]
abbrev pt (x y z t : Nat) : Value := .agg (ptA x y z t)
abbrev zero16 : Array Value := #[.int .u64 0, .int .u64 0, .int .u64 0, .int .u64 0, .int .u64 0, .int .u64 0, .int .u64 0, .int .u64 0, .int .u64 0, .int .u64 0, .int .u64 0, .int .u64 0, .int .u64 0, .int .u64 0, .int .u64 0, .int .u64 0]
theorem underPt : ∃ fs, Tryd.prog.underlying 44 = some (.struct fs) := ⟨_, Tryd.underlying44⟩
theorem sizePt : (Tryd.prog.info? 44).map (·.size) = some 16 := by kernel_rfl
theorem ptA_size (x y z t : Nat) : (Tryd.prog.info? 44).map (·.size) = some (ptA x y z t).size := sizePt
theorem ptA_all (x y z t : Nat) : (ptA x y z t).all (·.oneCell') = true :=
  all_oneCell_toArray (cs := [nv (wd x 0), nv (wd x 1), nv (wd x 2), nv (wd x 3), nv (wd y 0), nv (wd y 1), nv (wd y 2), nv (wd y 3), nv (wd z 0), nv (wd z 1), nv (wd z 2), nv (wd z 3), nv (wd t 0), nv (wd t 1), nv (wd t 2), nv (wd t 3)]) (by intro v hv; simp at hv; rcases hv with rfl | rfl | rfl | rfl | rfl | rfl | rfl | rfl | rfl | rfl | rfl | rfl | rfl | rfl | rfl | rfl <;> rfl)
theorem builtPt (x y z t : Nat) : Tryd.prog.built 44 [(0, .agg (num4A x)), (1, .agg (num4A y)), (2, .agg (num4A z)), (3, .agg (num4A t))] = some (ptA x y z t) := by kernel_rfl
section
variable {P : Program} (w : World)
/-- A 'build' at a step of a region that draws its order. -/
theorem step_build {ops : Array Oper} {o : Oper} {a : Act} {K : Act → World → Prop} {Q : Exit → Act → World → Prop} {E : Prop} (hgd : o.guard = none) (t : TypeId) (parts : Array (Nat × Operand)) (ho : o.op = .build t parts) (cells : Array Value)
    (hb : P.built t (parts.map fun (i, x) => (i, a.eval x)).toList = some cells) (h : K (a.put o.dst (.agg cells)) w) :
    if Region.wanted o (yielded ops a.tmps) = true then Oper.wp P o a w K Q else E := by
  rw [if_pos (by simp [Region.wanted, hgd])]
  exact wp_build t parts ho (by rw [hb]; rfl) (by rw [hb]; exact h)
end
theorem fold16 (x y z t : Nat) : (Value.agg #[nv (wd x 0), nv (wd x 1), nv (wd x 2), nv (wd x 3), nv (wd y 0), nv (wd y 1), nv (wd y 2), nv (wd y 3), nv (wd z 0), nv (wd z 1), nv (wd z 2), nv (wd z 3), nv (wd t 0), nv (wd t 1), nv (wd t 2), nv (wd t 3)]) = .agg (ptA x y z t) := rfl
theorem feTimesE (a b : Nat) (ha : a < P) (hb : b < P) (w : World) :
    Calls Tryd.prog 44 #[fe a, fe b] w fun e w' => e = .returned (.agg #[nv (wd (mP a b) 0), nv (wd (mP a b) 1), nv (wd (mP a b) 2), nv (wd (mP a b) 3)]) ∧ Below w.heap.size w w' := feTimes a b ha hb w
theorem at5_0 (w : World) (A B C D E : Obj) : (((((w.alloc A).alloc B).alloc C).alloc D).alloc E).heap[w.heap.size]? = some A := by
  rw [heap_alloc_old _ _ (by simp only [World.size_alloc]; omega), heap_alloc_old _ _ (by simp only [World.size_alloc]; omega)]; exact heap3_0 _ _ _ _
theorem at5_1 (w : World) (A B C D E : Obj) : (((((w.alloc A).alloc B).alloc C).alloc D).alloc E).heap[w.heap.size + 1]? = some B := by
  rw [heap_alloc_old _ _ (by simp only [World.size_alloc]; omega), heap_alloc_old _ _ (by simp only [World.size_alloc]; omega)]; exact heap3_1 _ _ _ _
theorem at5_2 (w : World) (A B C D E : Obj) : (((((w.alloc A).alloc B).alloc C).alloc D).alloc E).heap[w.heap.size + 2]? = some C := by
  rw [heap_alloc_old _ _ (by simp only [World.size_alloc]; omega), heap_alloc_old _ _ (by simp only [World.size_alloc]; omega)]; exact heap3_2 _ _ _ _
theorem at5_3 (w : World) (A B C D E : Obj) : (((((w.alloc A).alloc B).alloc C).alloc D).alloc E).heap[w.heap.size + 3]? = some D := by
  have := heap3_1 ((w.alloc A).alloc B) C D E
  simpa using this
theorem at5_4 (w : World) (A B C D E : Obj) : (((((w.alloc A).alloc B).alloc C).alloc D).alloc E).heap[w.heap.size + 4]? = some E := by
  have := heap3_2 ((w.alloc A).alloc B) C D E
  simpa using this
section
attribute [local go_sem] fold16
set_option maxRecDepth 100000 in
set_option maxHeartbeats 2000000 in
theorem feParts (xa xb xc xd : Nat) (he : xa < P) (hf : xb < P) (hg : xc < P) (hh : xd < P) (w : World) :
    Calls Tryd.prog 46 #[fe xa, fe xb, fe xc, fe xd] w fun e w' => e = .returned (pt (mP xa xb) (mP xc xd) (mP xb xc) (mP xa xd)) ∧ Below w.heap.size w w' := by
  have He := hide he; have Hf := hide hf; have Hg := hide hg; have Hh := hide hh; clear he hf hg hh
  obtain ⟨fs, HU⟩ : ∃ fs, Hid (Tryd.prog.underlying 44 = some (.struct fs)) := underPt
  go_enter Tryd.func46, Tryd.ntmps46
  go_wp2_with fail
  obtain ⟨W0, hW0⟩ : ∃ W0, W0 = (((((w.alloc (.cells (num4A xa) 42)).alloc (.cells (num4A xb) 42)).alloc (.cells (num4A xc) 42)).alloc (.cells (num4A xd) 42)).alloc (.cells zero16 44)) := ⟨_, rfl⟩
  rw [← hW0]
  have R0 : Hid (W0.heap[w.heap.size]? = some (.cells (num4A xa) 42 (0, 0))) := by rw [hW0]; exact at5_0 _ _ _ _ _ _
  have R1 : Hid (W0.heap[w.heap.size + 1]? = some (.cells (num4A xb) 42 (0, 0))) := by rw [hW0]; exact at5_1 _ _ _ _ _ _
  have R2 : Hid (W0.heap[w.heap.size + 2]? = some (.cells (num4A xc) 42 (0, 0))) := by rw [hW0]; exact at5_2 _ _ _ _ _ _
  have R3 : Hid (W0.heap[w.heap.size + 3]? = some (.cells (num4A xd) 42 (0, 0))) := by rw [hW0]; exact at5_3 _ _ _ _ _ _
  have RZ : Hid (W0.heap[w.heap.size + 4]? = some (.cells zero16 44 (0, 0))) := by rw [hW0]; exact at5_4 _ _ _ _ _ _
  have BL0 : Hid (Below w.heap.size w W0) := by rw [hW0]; show Below _ _ _; go_grown
  have Z0 : Hid (w.heap.size + 4 < W0.heap.size) := lt_of_row RZ.out
  clear hW0
  obtain ⟨a0, a1, a2, a3⟩ := c4_of R0.out
  obtain ⟨b0, b1, b2, b3⟩ := c4_of R1.out
  obtain ⟨c0, c1, c2, c3⟩ := c4_of R2.out
  obtain ⟨d0, d1, d2, d3⟩ := c4_of R3.out
  go_region_held3 (fun w' => C4 w' w.heap.size xa ∧ C4 w' (w.heap.size + 1) xb ∧ C4 w' (w.heap.size + 2) xc ∧ C4 w' (w.heap.size + 3) xd)
    (first | exact ⟨c4_set (c4_below (c4_of R0.out) K3.out (lt_of_row R0.out)) (by omega), c4_set (c4_below (c4_of R1.out) K3.out (lt_of_row R1.out)) (by omega), c4_set (c4_below (c4_of R2.out) K3.out (lt_of_row R2.out)) (by omega), c4_set (c4_below (c4_of R3.out) K3.out (lt_of_row R3.out)) (by omega)⟩ | exact ⟨c4_below (c4_of R0.out) K3.out (lt_of_row R0.out), c4_below (c4_of R1.out) K3.out (lt_of_row R1.out), c4_below (c4_of R2.out) K3.out (lt_of_row R2.out), c4_below (c4_of R3.out) K3.out (lt_of_row R3.out)⟩ | exact ⟨c4_below (c4_of R0.out) K2.out (lt_of_row R0.out), c4_below (c4_of R1.out) K2.out (lt_of_row R1.out), c4_below (c4_of R2.out) K2.out (lt_of_row R2.out), c4_below (c4_of R3.out) K2.out (lt_of_row R3.out)⟩ | exact ⟨c4_below (c4_of R0.out) K1.out (lt_of_row R0.out), c4_below (c4_of R1.out) K1.out (lt_of_row R1.out), c4_below (c4_of R2.out) K1.out (lt_of_row R2.out), c4_below (c4_of R3.out) K1.out (lt_of_row R3.out)⟩ | exact ⟨c4_below (c4_of R0.out) K0.out (lt_of_row R0.out), c4_below (c4_of R1.out) K0.out (lt_of_row R1.out), c4_below (c4_of R2.out) K0.out (lt_of_row R2.out), c4_below (c4_of R3.out) K0.out (lt_of_row R3.out)⟩ | exact ⟨c4_of R0.out, c4_of R1.out, c4_of R2.out, c4_of R3.out⟩ | go_keep)
    (first
      | (go_at_call 44; (fail_if_success (have zz := K0)); refine (feTimesE xa xb He.out Hf.out _).mono ?_; rintro ee V0 ⟨rfl, HB⟩; have K0 : Hid (Below W0.heap.size W0 V0) := hide (undrew HB); clear HB)
      | (go_at_call 44; (fail_if_success (have zz := K1)); (have zz := K0; clear zz); refine (feTimesE xc xd Hg.out Hh.out _).mono ?_; rintro ee V1 ⟨rfl, HB⟩; have K1 : Hid (Below W0.heap.size W0 V1) := hide (K0.out.trans (HB.mono K0.out.size)); clear HB)
      | (go_at_call 44; (fail_if_success (have zz := K2)); (have zz := K1; clear zz); refine (feTimesE xb xc Hf.out Hg.out _).mono ?_; rintro ee V2 ⟨rfl, HB⟩; have K2 : Hid (Below W0.heap.size W0 V2) := hide (K1.out.trans (HB.mono K1.out.size)); clear HB)
      | (go_at_call 44; (fail_if_success (have zz := K3)); (have zz := K2; clear zz); refine (feTimesE xa xd He.out Hh.out _).mono ?_; rintro ee V3 ⟨rfl, HB⟩; have K3 : Hid (Below W0.heap.size W0 V3) := hide (K2.out.trans (HB.mono K2.out.size)); clear HB; have hst := storeRow_run (P := Tryd.prog) (cs := ptA (mP xa xb) (mP xc xd) (mP xb xc) (mP xa xd)) ((K3.out.block _ Z0.out).trans RZ.out) rfl (ptA_all _ _ _ _); have hs16 : (ptA (mP xa xb) (mP xc xd) (mP xb xc) (mP xa xd)).size = 16 := rfl))
  clear a0 a1 a2 a3 b0 b1 b2 b3 c0 c1 c2 c3 d0 d1 d2 d3 hst hs16
  go_wp2_with fail
  refine bodyPost_ret (v := pt (mP xa xb) (mP xc xd) (mP xb xc) (mP xa xd)) (results_cell_row Tryd.results46 _ _ (w.heap.size + 4) 44 (ptA (mP xa xb) (mP xc xd) (mP xb xc) (mP xa xd)) (0, 0) _ (by rfl) (setRow_heap _ _ _ _ _ _ ((K3.out.block _ Z0.out).trans RZ.out)) HU.out rfl (ptA_size _ _ _ _)) rfl ⟨rfl, below_setRow (BL0.out.trans (K3.out.mono BL0.out.size)) (by omega) _⟩
end
end Go.Proofs.YtemdlpcljjdfjaaDoor
