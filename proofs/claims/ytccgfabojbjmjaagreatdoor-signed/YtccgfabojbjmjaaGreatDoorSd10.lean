import Derived.Test.YtccgfabojbjmjaaGreatDoorSd09
import Derived.Laws.ResultCell
namespace Go.Proofs.YtccgfabojbjmjaaGreatDoor
open Go.RowKit
def rpN (a : Nat) : Nat := mP (sqN 2 (lgN a)) a
theorem rpN_lt (a : Nat) : rpN a < P := mP_lt _ _
def invN (a : Nat) : Nat := mP (sqN 5 (lgN a)) (mP (mP a (sqN 1 a)) (sqN 3 a))
theorem invN_lt (a : Nat) : invN a < P := mP_lt _ _
set_option maxRecDepth 100000 in
set_option maxHeartbeats 2000000 in
theorem feRootPower (a : Nat) (ha : a < P) (w : World) :
  Calls Tryz.prog 171 #[fe a] w fun e w' => e = .returned (fe (rpN a)) ∧ Below w.heap.size w w' := by
 have Ha := hide ha
 clear ha
 go_enter Tryz.func171, Tryz.ntmps171
 go_wp2_with fail
 obtain ⟨W0, hW0⟩ : ∃ W0, W0 = ((w.alloc (.cells (num4A a) 80)).alloc (.cells zero4 80)) := ⟨_, rfl⟩
 rw [← hW0]
 have R0 : Hid (W0.heap[w.heap.size]? = some (.cells (num4A a) 80 (0, 0))) := by rw [hW0]; exact at2_0 _ _ _
 have RZ : Hid (W0.heap[w.heap.size + 1]? = some (.cells zero4 80 (0, 0))) := by rw [hW0]; exact at2_1 _ _ _
 have BL0 : Hid (Below w.heap.size w W0) := by rw [hW0]; show Below _ _ _; go_grown
 have Z0 : Hid (w.heap.size + 1 < W0.heap.size) := lt_of_row RZ.out
 clear hW0
 go_upto_region 1 with fail
 obtain ⟨c_p00, c_p01, c_p02, c_p03⟩ := c4_of R0.out
 go_region_held3 (fun w' => C4 w' (w.heap.size) (a))
  (first | exact c4_set (c4_below (c4_of R0.out) K0_2.out (lt_of_row R0.out)) (by have h0 := lt_of_row R0.out; have h1 := K0_0.out.size; have h2 := K0_1.out.size; have h3 := K0_2.out.size; have h9 := Z0.out; omega) | exact (c4_below (c4_of R0.out) K0_2.out (lt_of_row R0.out)) | exact (c4_below (c4_of R0.out) K0_1.out (lt_of_row R0.out)) | exact (c4_below (c4_of R0.out) K0_0.out (lt_of_row R0.out)) | exact c4_of R0.out | go_keep)
  (first
   | (go_at_call 142; (fail_if_success (have zz := K0_0)); refine (feLong a Ha.out _).mono ?_; rintro e V0_0 ⟨rfl, HB⟩; have K0_0 : Hid (Below W0.heap.size W0 V0_0) := (by first | exact hide (undrew HB) | exact hide (Below.trans (Below.alloc (Below.drew (Below.refl _ _)) (Nat.le_refl _) _) (HB.mono (by simp)))); clear HB)
   | (go_at_call 141; (fail_if_success (have zz := K0_1)); (have zz := K0_0; clear zz); refine (feSquared (lgN a) 2 (lgN_lt _) (by decide) _).mono ?_; rintro e V0_1 ⟨rfl, HB⟩; have K0_1 : Hid (Below W0.heap.size W0 V0_1) := (by first | exact hide (K0_0.out.trans (HB.mono K0_0.out.size)) | exact hide ((K0_0.out.alloc K0_0.out.size _).trans (HB.mono (by have := K0_0.out.size; simp; omega)))); clear HB)
   | (go_at_call 93; (fail_if_success (have zz := K0_2)); (have zz := K0_1; clear zz); refine (feTimes (sqN 2 (lgN a)) a (sqN_lt 2 _ (lgN_lt _)) Ha.out _).mono ?_; rintro e V0_2 ⟨rfl, HB⟩; have K0_2 : Hid (Below W0.heap.size W0 V0_2) := (by first | exact hide (K0_1.out.trans (HB.mono K0_1.out.size)) | exact hide ((K0_1.out.alloc K0_1.out.size _).trans (HB.mono (by have := K0_1.out.size; simp; omega)))); clear HB; have hst := storeRow_run (P := Tryz.prog) (cs := num4A (mP (sqN 2 (lgN a)) a)) ((K0_2.out.block _ Z0.out).trans RZ.out) rfl (num4A_all _); have hs4 : (num4A (mP (sqN 2 (lgN a)) a)).size = 4 := rfl))
 clear c_p00 c_p01 c_p02 c_p03
 clear hst hs4
 go_wp2_with fail
 refine bodyPost_ret (v := fe (mP (sqN 2 (lgN a)) a)) (results_cell_row Tryz.results171 _ _ (w.heap.size + 1) 80 (num4A (mP (sqN 2 (lgN a)) a)) (0, 0) _ (by rfl) (setRow_heap _ _ _ _ _ _ ((K0_2.out.block _ Z0.out).trans RZ.out)) under33 rfl (feSize _)) rfl ⟨rfl, below_setRow (BL0.out.trans (K0_2.out.mono BL0.out.size)) (by omega) _⟩
set_option maxRecDepth 100000 in
set_option maxHeartbeats 2000000 in
theorem feInverse (a : Nat) (ha : a < P) (w : World) :
  Calls Tryz.prog 92 #[fe a] w fun e w' => e = .returned (fe (invN a)) ∧ Below w.heap.size w w' := by
 have Ha := hide ha
 clear ha
 go_enter Tryz.func92, Tryz.ntmps92
 go_wp2_with fail
 obtain ⟨W0, hW0⟩ : ∃ W0, W0 = ((w.alloc (.cells (num4A a) 80)).alloc (.cells zero4 80)) := ⟨_, rfl⟩
 rw [← hW0]
 have R0 : Hid (W0.heap[w.heap.size]? = some (.cells (num4A a) 80 (0, 0))) := by rw [hW0]; exact at2_0 _ _ _
 have RZ : Hid (W0.heap[w.heap.size + 1]? = some (.cells zero4 80 (0, 0))) := by rw [hW0]; exact at2_1 _ _ _
 have BL0 : Hid (Below w.heap.size w W0) := by rw [hW0]; show Below _ _ _; go_grown
 have Z0 : Hid (w.heap.size + 1 < W0.heap.size) := lt_of_row RZ.out
 clear hW0
 go_upto_region 1 with fail
 go_cut [3] from 4 to 10 (fun s wx => ∃ g, s = .pointer (some ⟨g, 0, none⟩) ∧ Hid (W0.heap.size ≤ g) ∧ Hid (wx.heap[g]? = some (.cells (num4A (mP (mP a (sqN 1 a)) (sqN 3 a))) 80 (0, 0))) ∧ Hid (Below W0.heap.size W0 wx))
 case first =>
  obtain ⟨c_p00, c_p01, c_p02, c_p03⟩ := c4_of R0.out
  go_region_held3 (fun w' => C4 w' (w.heap.size) (a))
   (first | exact c4_set (c4_alloc (c4_below (c4_of R0.out) K0_3.out (lt_of_row R0.out)) _) (by have h0 := lt_of_row R0.out; have h1 := K0_0.out.size; have h2 := K0_1.out.size; have h3 := K0_2.out.size; have h4 := K0_3.out.size; have h9 := Z0.out; omega) | exact c4_set (c4_below (c4_of R0.out) K0_3.out (lt_of_row R0.out)) (by have h0 := lt_of_row R0.out; have h1 := K0_0.out.size; have h2 := K0_1.out.size; have h3 := K0_2.out.size; have h4 := K0_3.out.size; have h9 := Z0.out; omega) | exact (c4_below (c4_of R0.out) K0_3.out (lt_of_row R0.out)) | exact c4_alloc (c4_below (c4_of R0.out) K0_3.out (lt_of_row R0.out)) _ | exact (c4_below (c4_of R0.out) K0_2.out (lt_of_row R0.out)) | exact c4_alloc (c4_below (c4_of R0.out) K0_2.out (lt_of_row R0.out)) _ | exact (c4_below (c4_of R0.out) K0_1.out (lt_of_row R0.out)) | exact c4_alloc (c4_below (c4_of R0.out) K0_1.out (lt_of_row R0.out)) _ | exact (c4_below (c4_of R0.out) K0_0.out (lt_of_row R0.out)) | exact c4_alloc (c4_below (c4_of R0.out) K0_0.out (lt_of_row R0.out)) _ | exact c4_of R0.out | exact c4_alloc (w := W0.drew) (c4_of R0.out) _ | go_keep)
   (first
    | (go_at_call 141; (fail_if_success (have zz := K0_0)); refine (feSquared a 1 Ha.out (by decide) _).mono ?_; rintro e V0_0 ⟨rfl, HB⟩; have K0_0 : Hid (Below W0.heap.size W0 V0_0) := (by first | exact hide (undrew HB) | exact hide (Below.trans (Below.alloc (Below.drew (Below.refl _ _)) (Nat.le_refl _) _) (HB.mono (by simp)))); (first | (have ZZ := hide (row_keep (heap_alloc_new _ (.cells zero4 80)) HB)) | (have ZZ := hide (row_keep (w := (W0.alloc (.cells zero4 80)).drew) (heap_alloc_new W0 (.cells zero4 80)) HB)) | (have ZZ := hide (row_keep ZZ.out HB)) | skip); clear HB)
    | (go_at_call 93; (fail_if_success (have zz := K0_1)); (have zz := K0_0; clear zz); refine (feTimes a (sqN 1 a) Ha.out (sqN_lt 1 _ Ha.out) _).mono ?_; rintro e V0_1 ⟨rfl, HB⟩; have K0_1 : Hid (Below W0.heap.size W0 V0_1) := (by first | exact hide (K0_0.out.trans (HB.mono K0_0.out.size)) | exact hide ((K0_0.out.alloc K0_0.out.size _).trans (HB.mono (by have := K0_0.out.size; simp; omega)))); (first | (have ZZ := hide (row_keep (heap_alloc_new _ (.cells zero4 80)) HB)) | (have ZZ := hide (row_keep (w := (W0.alloc (.cells zero4 80)).drew) (heap_alloc_new W0 (.cells zero4 80)) HB)) | (have ZZ := hide (row_keep ZZ.out HB)) | skip); clear HB)
    | (go_at_call 141; (fail_if_success (have zz := K0_2)); (have zz := K0_1; clear zz); refine (feSquared a 3 Ha.out (by decide) _).mono ?_; rintro e V0_2 ⟨rfl, HB⟩; have K0_2 : Hid (Below W0.heap.size W0 V0_2) := (by first | exact hide (K0_1.out.trans (HB.mono K0_1.out.size)) | exact hide ((K0_1.out.alloc K0_1.out.size _).trans (HB.mono (by have := K0_1.out.size; simp; omega)))); (first | (have ZZ := hide (row_keep (heap_alloc_new _ (.cells zero4 80)) HB)) | (have ZZ := hide (row_keep (w := (W0.alloc (.cells zero4 80)).drew) (heap_alloc_new W0 (.cells zero4 80)) HB)) | (have ZZ := hide (row_keep ZZ.out HB)) | skip); clear HB)
    | (go_at_call 93; (fail_if_success (have zz := K0_3)); (have zz := K0_2; clear zz); refine (feTimes (mP a (sqN 1 a)) (sqN 3 a) (mP_lt _ _) (sqN_lt 3 _ Ha.out) _).mono ?_; rintro e V0_3 ⟨rfl, HB⟩; have K0_3 : Hid (Below W0.heap.size W0 V0_3) := (by first | exact hide (K0_2.out.trans (HB.mono K0_2.out.size)) | exact hide ((K0_2.out.alloc K0_2.out.size _).trans (HB.mono (by have := K0_2.out.size; simp; omega)))); (first | (have ZZ := hide (row_keep (heap_alloc_new _ (.cells zero4 80)) HB)) | (have ZZ := hide (row_keep (w := (W0.alloc (.cells zero4 80)).drew) (heap_alloc_new W0 (.cells zero4 80)) HB)) | (have ZZ := hide (row_keep ZZ.out HB)) | skip); clear HB; (first | (have hst := storeRow_run (P := Tryz.prog) (cs := num4A (mP (mP a (sqN 1 a)) (sqN 3 a))) ZZ.out rfl (num4A_all _)) | (have hst := storeRow_run (P := Tryz.prog) (w := V0_3.alloc (.cells zero4 80)) (cs := num4A (mP (mP a (sqN 1 a)) (sqN 3 a))) (heap_alloc_new _ _) rfl (num4A_all _))); have hs4 : (num4A (mP (mP a (sqN 1 a)) (sqN 3 a))).size = 4 := rfl))
  all_goals (
   clear c_p00 c_p01 c_p02 c_p03
   clear hst hs4
   go_wp2_with fail
   go_meet
   case rel => first | exact ⟨_, rfl, hide (by have h1 := K0_0.out.size; have h2 := K0_1.out.size; have h3 := K0_2.out.size; have h4 := K0_3.out.size; omega), hide (setRow_heap _ _ _ _ _ _ ZZ.out), hide (below_setRow K0_3.out (by have h1 := K0_0.out.size; have h2 := K0_1.out.size; have h3 := K0_2.out.size; have h4 := K0_3.out.size; omega) _)⟩ | exact ⟨_, rfl, hide (by have h1 := K0_0.out.size; have h2 := K0_1.out.size; have h3 := K0_2.out.size; have h4 := K0_3.out.size; omega), hide (setRow_heap _ _ _ _ _ _ (heap_alloc_new _ _)), hide (below_setRow (K0_3.out.alloc K0_3.out.size _) (by have h1 := K0_0.out.size; have h2 := K0_1.out.size; have h3 := K0_2.out.size; have h4 := K0_3.out.size; omega) _)⟩)
 case rest =>
 obtain ⟨g1, rfl, G1, Q1, X1⟩ := hcut
 obtain ⟨W1, hW1⟩ : ∃ W1, W1 = wc := ⟨_, rfl⟩
 subst hW1
 have BL1 : Hid (Below w.heap.size w W1) := BL0.out.trans (X1.out.mono BL0.out.size)
 have Z1 : Hid (w.heap.size + 1 < W1.heap.size) := by show _ < _; have := Z0.out; have := X1.out.size; omega
 replace R0 := hide (row_below R0.out X1.out (lt_of_row R0.out))
 replace RZ := hide (row_below RZ.out X1.out Z0.out)
 have N1 : Hid (w.heap.size + 1 < g1) := by show _ < _; have := G1.out; have := Z0.out; omega
 clear X1 BL0 Z0 G1
 go_upto_region 2 with fail
 obtain ⟨c_p00, c_p01, c_p02, c_p03⟩ := c4_of R0.out
 obtain ⟨c_el0, c_el1, c_el2, c_el3⟩ := c4_of Q1.out
 go_region_held3 (fun w' => C4 w' (w.heap.size) (a) ∧ C4 w' (g1) (mP (mP a (sqN 1 a)) (sqN 3 a)))
  (first | exact ⟨c4_set (c4_below (c4_of R0.out) K1_2.out (lt_of_row R0.out)) (by have h0 := lt_of_row R0.out; have h1 := K1_0.out.size; have h2 := K1_1.out.size; have h3 := K1_2.out.size; have h9 := Z1.out; have n1 := N1.out; omega), c4_set (c4_below (c4_of Q1.out) K1_2.out (lt_of_row Q1.out)) (by have h0 := lt_of_row Q1.out; have h1 := K1_0.out.size; have h2 := K1_1.out.size; have h3 := K1_2.out.size; have h9 := Z1.out; have n1 := N1.out; omega)⟩ | exact ⟨(c4_below (c4_of R0.out) K1_2.out (lt_of_row R0.out)), (c4_below (c4_of Q1.out) K1_2.out (lt_of_row Q1.out))⟩ | exact ⟨(c4_below (c4_of R0.out) K1_1.out (lt_of_row R0.out)), (c4_below (c4_of Q1.out) K1_1.out (lt_of_row Q1.out))⟩ | exact ⟨(c4_below (c4_of R0.out) K1_0.out (lt_of_row R0.out)), (c4_below (c4_of Q1.out) K1_0.out (lt_of_row Q1.out))⟩ | exact ⟨c4_of R0.out, c4_of Q1.out⟩ | go_keep)
  (first
   | (go_at_call 142; (fail_if_success (have zz := K1_0)); refine (feLong a Ha.out _).mono ?_; rintro e V1_0 ⟨rfl, HB⟩; have K1_0 : Hid (Below W1.heap.size W1 V1_0) := (by first | exact hide (undrew HB) | exact hide (Below.trans (Below.alloc (Below.drew (Below.refl _ _)) (Nat.le_refl _) _) (HB.mono (by simp)))); clear HB)
   | (go_at_call 141; (fail_if_success (have zz := K1_1)); (have zz := K1_0; clear zz); refine (feSquared (lgN a) 5 (lgN_lt _) (by decide) _).mono ?_; rintro e V1_1 ⟨rfl, HB⟩; have K1_1 : Hid (Below W1.heap.size W1 V1_1) := (by first | exact hide (K1_0.out.trans (HB.mono K1_0.out.size)) | exact hide ((K1_0.out.alloc K1_0.out.size _).trans (HB.mono (by have := K1_0.out.size; simp; omega)))); clear HB)
   | (go_at_call 93; (fail_if_success (have zz := K1_2)); (have zz := K1_1; clear zz); refine (feTimes (sqN 5 (lgN a)) (mP (mP a (sqN 1 a)) (sqN 3 a)) (sqN_lt 5 _ (lgN_lt _)) (mP_lt _ _) _).mono ?_; rintro e V1_2 ⟨rfl, HB⟩; have K1_2 : Hid (Below W1.heap.size W1 V1_2) := (by first | exact hide (K1_1.out.trans (HB.mono K1_1.out.size)) | exact hide ((K1_1.out.alloc K1_1.out.size _).trans (HB.mono (by have := K1_1.out.size; simp; omega)))); clear HB; have hst := storeRow_run (P := Tryz.prog) (cs := num4A (mP (sqN 5 (lgN a)) (mP (mP a (sqN 1 a)) (sqN 3 a)))) ((K1_2.out.block _ Z1.out).trans RZ.out) rfl (num4A_all _); have hs4 : (num4A (mP (sqN 5 (lgN a)) (mP (mP a (sqN 1 a)) (sqN 3 a)))).size = 4 := rfl))
 clear c_p00 c_p01 c_p02 c_p03
 clear c_el0 c_el1 c_el2 c_el3
 clear hst hs4
 go_wp2_with fail
 refine bodyPost_ret (v := fe (mP (sqN 5 (lgN a)) (mP (mP a (sqN 1 a)) (sqN 3 a)))) (results_cell_row Tryz.results92 _ _ (w.heap.size + 1) 80 (num4A (mP (sqN 5 (lgN a)) (mP (mP a (sqN 1 a)) (sqN 3 a)))) (0, 0) _ (by rfl) (setRow_heap _ _ _ _ _ _ ((K1_2.out.block _ Z1.out).trans RZ.out)) under33 rfl (feSize _)) rfl ⟨rfl, below_setRow (BL1.out.trans (K1_2.out.mono BL1.out.size)) (by omega) _⟩
theorem sizeOf64 : (Tryz.prog.info? 59).map (·.size) = some 1 := by kernel_rfl
theorem under64' : Tryz.prog.underlying 59 = some (.int .u64) := by kernel_rfl
theorem part64 (xs : Array Value) (i : Nat) (x : Int) (h : xs[i]? = some (.int .u64 x)) (w : World) : (part 59 xs i).run Tryz.prog w = .ok (.int .u64 x) w := by
 cases hq : Tryz.prog.info? 59 with
 | none => have := sizeOf64; rw [hq] at this; cases this
 | some inf =>
  have hi : inf.size = 1 := by have := sizeOf64; rw [hq] at this; simpa using this
  simp [part, sizeOf, typeInfo, hq, hi, h]
theorem eqArr4 (a0 a1 a2 a3 b0 b1 b2 b3 : Nat) (w : World) :
  (Op.equalIn 10000 80 (.agg #[nv a0, nv a1, nv a2, nv a3]) (.agg #[nv b0, nv b1, nv b2, nv b3])).run Tryz.prog w = .ok (V a0 == V b0 && (V a1 == V b1 && (V a2 == V b2 && V a3 == V b3))) w := by
 cases hq : Tryz.prog.info? 59 with
 | none => have := sizeOf64; rw [hq] at this; cases this
 | some inf =>
  have hi : inf.size = 1 := by have := sizeOf64; rw [hq] at this; simpa using this
  rw [show (10000 : Nat) = 9998 + 1 + 1 from rfl]
  unfold Op.equalIn
  simp only [Sem.run_bind, run_underlying under33, Result.andThen_ok]
  simp [sizeOf, typeInfo, hq, hi, Std.Legacy.Range.forIn_eq_forIn_range']
  have p0 := part64 #[nv a0, nv a1, nv a2, nv a3] 0 (V a0) rfl w
  have p1 := part64 #[nv a0, nv a1, nv a2, nv a3] 1 (V a1) rfl w
  have p2 := part64 #[nv a0, nv a1, nv a2, nv a3] 2 (V a2) rfl w
  have p3 := part64 #[nv a0, nv a1, nv a2, nv a3] 3 (V a3) rfl w
  have q0 := part64 #[nv b0, nv b1, nv b2, nv b3] 0 (V b0) rfl w
  have q1 := part64 #[nv b0, nv b1, nv b2, nv b3] 1 (V b1) rfl w
  have q2 := part64 #[nv b0, nv b1, nv b2, nv b3] 2 (V b2) rfl w
  have q3 := part64 #[nv b0, nv b1, nv b2, nv b3] 3 (V b3) rfl w
  have e := fun x y : Int => run_equalIn_int (P := Tryz.prog) w 9998 59 .u64 .u64 x y under64'
  generalize V a0 = x0 at *
  generalize V a1 = x1 at *
  generalize V a2 = x2 at *
  generalize V a3 = x3 at *
  generalize V b0 = y0 at *
  generalize V b1 = y1 at *
  generalize V b2 = y2 at *
  generalize V b3 = y3 at *
  by_cases h0 : x0 = y0 <;> by_cases h1 : x1 = y1 <;> by_cases h2 : x2 = y2 <;> by_cases h3 : x3 = y3 <;>
   simp [List.range', List.forIn_cons, p0, p1, p2, p3, q0, q1, q2, q3, e, h0, h1, h2, h3]
theorem wd_inj {a b : Nat} (ha : a < P) (hb : b < P) (h0 : wd a 0 = wd b 0) (h1 : wd a 1 = wd b 1) (h2 : wd a 2 = wd b 2) (h3 : wd a 3 = wd b 3) : a = b := by
 have la : a < 57896044618658097711785492504343953926634992332820282019728792003956564819949 := ha
 have lb : b < 57896044618658097711785492504343953926634992332820282019728792003956564819949 := hb
 unfold wd at *
 simp only [Nat.reducePow, Nat.pow_zero, Nat.div_one] at *
 omega
theorem feEq (a b : Nat) (ha : a < P) (hb : b < P) (w : World) :
  (Op.equalIn 10000 80 (.agg #[nv (wd a 0), nv (wd a 1), nv (wd a 2), nv (wd a 3)]) (.agg #[nv (wd b 0), nv (wd b 1), nv (wd b 2), nv (wd b 3)])).run Tryz.prog w = .ok (decide (a = b)) w := by
 rw [eqArr4]
 congr 1
 have vi : ∀ x y : Nat, (V x == V y) = decide (x = y) := by
  intro x y; unfold V
  by_cases h : x = y
  · subst h; simp
  · simp [h]; omega
 simp only [vi]
 by_cases h : a = b
 · subst h; simp
 ·
  simp only [h, decide_false]
  by_cases h0 : wd a 0 = wd b 0 <;> by_cases h1 : wd a 1 = wd b 1 <;> by_cases h2 : wd a 2 = wd b 2 <;> by_cases h3 : wd a 3 = wd b 3 <;> simp [h0, h1, h2, h3]
  exact h (wd_inj ha hb h0 h1 h2 h3)
theorem feEq' (a b : Nat) (ha : a < P) (hb : b < P) (w : World) : (Op.equalIn 10000 80 (.agg #[nv (wd a 0), nv (wd a 1), nv (wd a 2), nv (wd a 3)]) (fe b)).run Tryz.prog w = .ok (decide (a = b)) w := feEq a b ha hb w
theorem results_cell_tmp_row {P : Program} {fn : Func} {p u : Tmp} {ty : TypeId} (h : fn.results = #[.cell p ty, .tmp u]) (tmps : Array Value) (w : World) (g : Nat) (t : TypeId) (cs : Array Value) (fr : Nat × Nat) (d : TypeDesc)
  (hp : tmps.getD p undef = .pointer (some ⟨g, 0, none⟩)) (hg : w.heap[g]? = some (.cells cs t fr))
  (hu : P.underlying ty = some d) (hd : (match d with | .struct _ | .array _ _ => true | _ => false) = true) (hi : (P.info? ty).map (·.size) = some cs.size) :
  (results fn tmps).run P w = .ok (.tuple #[.agg cs, tmps.getD u undef]) w := by
 rw [results_cell_tmp h, hp]
 simp [asAddr, run_loadVar_row w g t ty cs fr d hg hu hd hi]
theorem num4A_zero : num4A 0 = zero4 := by unfold num4A wd; rfl
theorem zero4_all : zero4.all (·.oneCell') = true := w4_cell 0 0 0 0
theorem feMinus0 (b : Nat) (hb : b < P) (w : World) :
  Calls Tryz.prog 119 #[.agg zero4, .agg #[nv (wd b 0), nv (wd b 1), nv (wd b 2), nv (wd b 3)]] w fun e w' => e = .returned (fe (sP 0 b)) ∧ Below w.heap.size w w' := by
 have := feMinus 0 b P_pos hb w
 unfold fe at this
 rw [num4A_zero] at this
 exact this
end Go.Proofs.YtccgfabojbjmjaaGreatDoor
