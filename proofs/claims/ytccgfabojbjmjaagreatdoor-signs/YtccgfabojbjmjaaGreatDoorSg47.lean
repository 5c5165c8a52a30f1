import Derived.Test.YtccgfabojbjmjaaGreatDoorSg45
namespace Go.Proofs.YtccgfabojbjmjaaGreatDoor
open Go.RowKit
structure TI (a b d : List Int) (i k : Nat) : Prop where
 l : d.length = 35
 val : vB 65536 d = vB 65536 (a.take i) * vB 65536 b + a.getD i 0 * (65536 ^ i * vB 65536 (b.take k))
 b : ∀ x ∈ d, 0 ≤ x ∧ x ≤ (17 * i + k : Nat) * 4294967296
theorem prod_leT {x y : Int} (hx : 0 ≤ x ∧ x < 65536) (hy : 0 ≤ y ∧ y < 65536) : 0 ≤ x * y ∧ x * y ≤ 4294967296 := by
 refine ⟨Int.mul_nonneg hx.1 hy.1, ?_⟩
 have h1 := Int.mul_le_mul_of_nonneg_left (show y ≤ 65536 by omega) hx.1
 omega
theorem TI.start (a b : List Int) : TI a b (List.replicate 35 0) 0 0 := by
 refine ⟨rfl, ?_, ?_⟩
 ·
  rw [List.take_zero, List.take_zero]
  have : vB 65536 (List.replicate 35 0) = 0 := by decide
  rw [this]; simp [vB]
 · intro x hx; rw [List.mem_replicate] at hx; omega
theorem TI.step {a b d : List Int} {i k : Nat} (h : TI a b d i k) (hb : b.length = 17) (ra : ∀ x ∈ a, 0 ≤ x ∧ x < 65536) (rb : ∀ x ∈ b, 0 ≤ x ∧ x < 65536) (ha : i < a.length) (hl : a.length = 17) (hk : k < 17) :
  TI a b (d.set (i + k) (d.getD (i + k) 0 + a.getD i 0 * b.getD k 0)) i (k + 1) := by
 have hp := prod_leT (ra _ (qay ha)) (rb _ (qay (l := b) (i := k) (by omega)))
 have hlt : i + k < d.length := by rw [h.l]; omega
 refine ⟨by rw [List.length_set]; exact h.l, ?_, ?_⟩
 ·
  rw [qd9 _ _ _ _ hlt, qeh _ _ _ (by omega)]
  have e := h.val
  have e2 : (d.getD (i + k) 0 + a.getD i 0 * b.getD k 0 - d.getD (i + k) 0) * 65536 ^ (i + k) = a.getD i 0 * (65536 ^ i * (b.getD k 0 * 65536 ^ k)) := by
   rw [qck, Int.pow_add]
   ac_rfl
  rw [e2, Int.mul_add, Int.mul_add]
  omega
 ·
  intro x hx
  rcases List.mem_or_eq_of_mem_set hx with hx | hx
  · have := h.b x hx; omega
  · have := h.b _ (qay hlt); omega
theorem TI.next {a b d : List Int} {i : Nat} (h : TI a b d i 17) (hb : b.length = 17) (ha : i < a.length) : TI a b d (i + 1) 0 := by
 refine ⟨h.l, ?_, fun x hx => by have := h.b x hx; omega⟩
 have e := h.val
 rw [List.take_of_length_le (show b.length ≤ 17 by omega)] at e
 rw [e, qeh _ _ _ ha, Int.add_mul, List.take_zero]
 simp only [vB, Int.mul_zero, Int.add_zero]
 congr 1
 ac_rfl
structure TA (v : Int) (c d : List Int) (k : Nat) : Prop where
 l : d.length = 35
 val : vB 65536 d = v + vB 65536 (c.take k)
 b : ∀ x ∈ d, 0 ≤ x ∧ x ≤ 1241245548544 + k * 65536
theorem TA.step {v : Int} {c d : List Int} {k : Nat} (h : TA v c d k) (hc : c.length = 17) (rc : ∀ x ∈ c, 0 ≤ x ∧ x < 65536) (hk : k < 17) : TA v c (d.set k (d.getD k 0 + c.getD k 0)) (k + 1) := by
 have hp := rc _ (qay (l := c) (i := k) (by omega))
 have hlt : k < d.length := by rw [h.l]; omega
 refine ⟨by rw [List.length_set]; exact h.l, ?_, ?_⟩
 ·
  rw [qd9 _ _ _ _ hlt, qeh _ _ _ (by omega), qck, h.val]
  omega
 ·
  intro x hx
  rcases List.mem_or_eq_of_mem_set hx with hx | hx
  · have := h.b x hx; omega
  · have := h.b _ (qay hlt); omega
structure TW (w wr : World) (q : Nat) (A B C d : List Int) : Prop where
 r0 : wr.heap[w.heap.size]? = some (.cells (A.map iv).toArray 91 (0, 0))
 r1 : wr.heap[w.heap.size + 1]? = some (.cells (B.map iv).toArray 91 (0, 0))
 r2 : wr.heap[w.heap.size + 2]? = some (.cells (C.map iv).toArray 91 (0, 0))
 r3 : wr.heap[w.heap.size + 3]? = some (.cells zS 91 (0, 0))
 r4 : wr.heap[q]? = some (.cells (d.map iv).toArray 3 (0, 0))
 be : Below w.heap.size w wr
theorem TW.set {w wr : World} {q : Nat} {A B C d : List Int} (h : TW w wr q A B C d) (hq : w.heap.size + 4 ≤ q) (i : Nat) (v : Int) : TW w (wr.setCell ⟨q, i, none⟩ (iv v)) q A B C (d.set i v) :=
 ⟨qa7 _ _ h.r0 (by omega), qa7 _ _ h.r1 (by omega), qa7 _ _ h.r2 (by omega), qa7 _ _ h.r3 (by omega), by rw [List.map_set]; exact qaA h.r4 i _, h.be.setCell (by show w.heap.size ≤ q; omega) _⟩
theorem TW.drew {w wr : World} {q : Nat} {A B C d : List Int} (h : TW w wr q A B C d) : TW w wr.drew q A B C d := ⟨h.r0, h.r1, h.r2, h.r3, h.r4, h.be.drew⟩
theorem make35 (w : World) : (Instr.makeSlice 151 (.int .i64 35) (.int .i64 35)).run Tryz.prog w = .ok (.slice (some ⟨w.heap.size, 0, none⟩) 35 35) (w.alloc (.cells ((List.replicate 35 (0 : Int)).map iv).toArray 3)) := by kernel_rfl
theorem vLoT (x : Int) : Value.int .u8 (x % 256) = cv (UInt8.ofNat (x % 65536 % 256).toNat) := by
 show Value.int .u8 _ = Value.int .u8 (C8 _)
 congr 1
 unfold C8; rw [UInt8.toNat_ofNat']; omega
theorem vHiT (x : Int) : Value.int .u8 (x / 256 % 256) = cv (UInt8.ofNat (x % 65536 / 256).toNat) := by
 show Value.int .u8 _ = Value.int .u8 (C8 _)
 congr 1
 unfold C8; rw [UInt8.toNat_ofNat']; omega
theorem digit_at (d : List Int) (h : d.length = 35) (k : Nat) (hk : k < 35) : (dB 65536 35 (vB 65536 d)).getD k 0 = (d.getD k 0 + qbi 65536 d k) % 65536 := by
 rw [← h, ← rowC_all 65536 (by decide) d]
 unfold qdx
 simp [List.getD_eq_getElem?_getD, h, hk]
theorem carry_nonneg (d : List Int) (hb : ∀ x ∈ d, 0 ≤ x ∧ x ≤ 1241246662656) : ∀ k, k ≤ d.length → 0 ≤ qbi 65536 d k ∧ qbi 65536 d k ≤ 1241246662656
 | 0, _ => ⟨Int.le_refl _, by show (0 : Int) ≤ _; decide⟩
 | k + 1, h => by
  have ih := carry_nonneg d hb k (by omega)
  have hx := hb _ (qay (l := d) (i := k) (by omega))
  unfold qbi
  omega
theorem tp_val (a b c : Nat) (D : List Int) (hD : vB 65536 D = (a : Int) * b + c) : vB 65536 D = ((a * b + c : Nat) : Int) := by rw [hD]; simp
theorem vB_full (n : Nat) (hn : n < 115792089237316195423570985008687907853269984665640564039457584007913129639936) : vB 65536 (dB 65536 17 (n : Int)) = n := by
 rw [vB_dB 65536 (by decide)]
 have : (65536 : Int) ^ 17 = 7588550360256754183279148073529370729071901715047420004889892225542594864082845696 := by decide
 rw [this]; omega
theorem valLE_appT (a b : List UInt8) : qaC (a ++ b) = qaC a + 256 ^ a.length * qaC b := by
 induction a with
 | nil => simp [qaC]
 | cons c l ih =>
  simp only [List.cons_append, qaC, List.length_cons, ih, Nat.pow_succ]
  rw [Nat.mul_add, Nat.mul_comm (256 ^ l.length) 256, Nat.mul_assoc]
  omega
theorem valLE_leBK : ∀ (k n : Nat), qaC (leB n k) = n % 256 ^ k
 | 0, n => by rw [show leB n 0 = [] from rfl, Nat.pow_zero, Nat.mod_one]; rfl
 | k + 1, n => by
  have e : leB n (k + 1) = leB n k ++ [qbe n k] := by
   unfold leB
   rw [List.range_succ, List.map_append]; rfl
  rw [e, valLE_appT, qav, valLE_leBK k n]
  have h1 : qaC [qbe n k] = n / 256 ^ k % 256 := by
   show (qbe n k).toNat + 256 * 0 = _
   rw [qaX]; omega
  rw [h1, Nat.pow_succ, Nat.mod_mul]
theorem tp_num (V : Nat) (hV : V < 256 ^ 70) : qaC (leB V 70) = V := by rw [valLE_leBK]; exact Nat.mod_eq_of_lt hV
section
attribute [local irreducible] sA
set_option maxRecDepth 100000 in
set_option maxHeartbeats 2000000 in
theorem refTimesPlus (a b c : Nat) (ha : a < 115792089237316195423570985008687907853269984665640564039457584007913129639936) (hb : b < 115792089237316195423570985008687907853269984665640564039457584007913129639936) (hc : c < 115792089237316195423570985008687907853269984665640564039457584007913129639936) (w : World) :
  Calls Tryz.prog 39 #[.agg (sA (leB a 32)), .agg (sA (leB b 32)), .agg (sA (leB c 32))] w fun e w' => e = .returned (.agg (sA (leB ((a * b + c) % qcB) 32))) ∧ Below w.heap.size w w' := by
 have hz := zeroS
 have hmk := make35
 obtain ⟨i0, hi, hz0, hz1, hz2⟩ := info_parts infoB
 have HI0 := qaf hi
 have HZ0 := qaf hz0
 have HZ1 := qaf hz1
 have HZ2 := qaf hz2
 clear hi hz0 hz1 hz2
 rw [sA_dB a ha, sA_dB b hb, sA_dB c hc]
 obtain ⟨A, HA⟩ : ∃ A, Hid (A = dB 65536 17 (a : Int)) := ⟨_, rfl⟩
 obtain ⟨B, HB⟩ : ∃ B, Hid (B = dB 65536 17 (b : Int)) := ⟨_, rfl⟩
 obtain ⟨C, HC⟩ : ∃ B, Hid (B = dB 65536 17 (c : Int)) := ⟨_, rfl⟩
 have HAl : Hid (A.length = 17) := by rw [HA.out]; exact qaT _ _ _
 have HBl : Hid (B.length = 17) := by rw [HB.out]; exact qaT _ _ _
 have HCl : Hid (C.length = 17) := by rw [HC.out]; exact qaT _ _ _
 have HAb : Hid (∀ x ∈ A, 0 ≤ x ∧ x < 65536) := by rw [HA.out]; exact qei _ (by decide) _ _
 have HBb : Hid (∀ x ∈ B, 0 ≤ x ∧ x < 65536) := by rw [HB.out]; exact qei _ (by decide) _ _
 have HCb : Hid (∀ x ∈ C, 0 ≤ x ∧ x < 65536) := by rw [HC.out]; exact qei _ (by decide) _ _
 have HAv : Hid (vB 65536 A = a) := by rw [HA.out]; exact vB_full a ha
 have HBv : Hid (vB 65536 B = b) := by rw [HB.out]; exact vB_full b hb
 have HCv : Hid (vB 65536 C = c) := by rw [HC.out]; exact vB_full c hc
 have HV : Hid (a * b + c < 256 ^ 70) := by
  have h1 : a * b ≤ 115792089237316195423570985008687907853269984665640564039457584007913129639936 * 115792089237316195423570985008687907853269984665640564039457584007913129639936 := Nat.mul_le_mul (Nat.le_of_lt ha) (Nat.le_of_lt hb)
  show _ < _
  refine Nat.lt_of_lt_of_le (Nat.add_lt_add_of_le_of_lt h1 hc) (by decide)
 rw [← HA.out, ← HB.out, ← HC.out]
 clear HA HB HC ha hb hc
 obtain ⟨MA, HMA⟩ : ∃ M, Hid (M = (A.map iv).toArray) := ⟨_, rfl⟩
 obtain ⟨MB, HMB⟩ : ∃ M, Hid (M = (B.map iv).toArray) := ⟨_, rfl⟩
 obtain ⟨MC, HMC⟩ : ∃ M, Hid (M = (C.map iv).toArray) := ⟨_, rfl⟩
 rw [← HMA.out, ← HMB.out, ← HMC.out]
 go_enter Tryz.func39, Tryz.ntmps39
 go_upto_region 1 with fail
 generalize hW0 : World.alloc _ _ = W0
 have R0 : Hid (W0.heap[w.heap.size]? = some (.cells MA 91 (0, 0))) := by rw [← hW0]; exact at4_0 _ _ _ _ _
 have R1 : Hid (W0.heap[w.heap.size + 1]? = some (.cells MB 91 (0, 0))) := by rw [← hW0]; exact at4_1 _ _ _ _ _
 have R2 : Hid (W0.heap[w.heap.size + 2]? = some (.cells MC 91 (0, 0))) := by rw [← hW0]; exact at4_2 _ _ _ _ _
 have R3 : Hid (W0.heap[w.heap.size + 3]? = some (.cells zS 91 (0, 0))) := by rw [← hW0]; exact at4_3 _ _ _ _ _
 have B0 : Hid (Below w.heap.size w W0) := by rw [← hW0]; show Below _ _ _; go_grown
 clear hW0
 rw [HMA.out] at R0
 rw [HMB.out] at R1
 rw [HMC.out] at R2
 go_upto_region 2 with fail
 obtain ⟨q, hq⟩ : ∃ q, q = W0.heap.size := ⟨_, rfl⟩
 generalize hW1 : World.alloc _ _ = W1
 have hq4 : w.heap.size + 4 ≤ q := by have := qae R3.out; omega
 have HW1 : Hid (TW w W1 q A B C (List.replicate 35 0)) := by
  rw [← hW1]
  refine ⟨(heap_alloc_old _ _ (qae R0.out)).trans R0.out, (heap_alloc_old _ _ (qae R1.out)).trans R1.out, (heap_alloc_old _ _ (qae R2.out)).trans R2.out, (heap_alloc_old _ _ (qae R3.out)).trans R3.out, by rw [hq]; exact heap_alloc_new _ _, B0.out.alloc B0.out.size _⟩
 rw [← hq]
 clear hW1 hq R0 R1 R2 R3 B0 hmk hz
 go_wp2_with fail
 go_loopw [8] (fun iV wr => ∃ (i : Nat) (d : List Int), i ≤ 17 ∧ iV = .int .i64 i ∧ Hid (TI A B d i 0) ∧ Hid (TW w wr q A B C d)) (fun i _ => 17 - (intOf i).toNat)
 case atStart => exact ⟨0, _, Nat.zero_le _, rfl, TI.start A B, HW1⟩
 case round =>
  clear HW1
  obtain ⟨i, d, hi, rfl, HI, HW⟩ := hrel
  by_cases hlt : i < 17
  ·
   have bi : (i : Int) < 17 := by omega
   go_wp2_with fail
   go_loopw [9] (fun kV wr => ∃ (k : Nat) (d : List Int), k ≤ 17 ∧ kV = .int .i64 k ∧ Hid (TI A B d i k) ∧ Hid (TW w wr q A B C d)) (fun k _ => 17 - (intOf k).toNat)
   case atStart => exact ⟨0, d, Nat.zero_le _, rfl, HI, HW⟩
   case round =>
    clear HI HW d
    obtain ⟨k, d, hk, rfl, HI, HW⟩ := hrel
    by_cases hk17 : k < 17
    ·
     have bk : (k : Int) < 17 := by omega
     obtain ⟨j, Hj⟩ : ∃ j, Hid (j = i + k) := ⟨_, qaf rfl⟩
     have es : IntKind.i64.wrap ((i : Int) + (k : Int)) = (j : Int) := by have := Hj.out; rw [IntKind.wrap_i64]; omega
     have bj : (j : Int) < 35 := by have := Hj.out; omega
     have cd := qaP HW.out.r4 j (by have := Hj.out; rw [HI.out.l]; omega)
     have ca := qaP HW.out.r0 i (by rw [HAl.out]; exact hlt)
     have cb := qaP HW.out.r1 k (by rw [HBl.out]; exact hk17)
     have f3 := frozen_of_row wr q j _ _ HW.out.r4
     obtain ⟨x, HX⟩ : ∃ y, Hid (y = A.getD i 0) := ⟨_, rfl⟩
     obtain ⟨y, HY⟩ : ∃ y, Hid (y = B.getD k 0) := ⟨_, rfl⟩
     obtain ⟨u, HU⟩ : ∃ u, Hid (u = d.getD j 0) := ⟨_, rfl⟩
     rw [← HX.out] at ca
     rw [← HY.out] at cb
     rw [← HU.out] at cd
     have hx := HAb.out _ (qay (l := A) (i := i) (by rw [HAl.out]; exact hlt))
     have hy := HBb.out _ (qay (l := B) (i := k) (by rw [HBl.out]; exact hk17))
     rw [← HX.out] at hx
     rw [← HY.out] at hy
     obtain ⟨p0, p1⟩ := prod_leT hx hy
     have hu := HI.out.b _ (qay (l := d) (i := j) (by have := Hj.out; rw [HI.out.l]; omega))
     rw [← HU.out] at hu
     have hw1 : IntKind.i64.wrap (x * y) = x * y := by rw [IntKind.wrap_i64]; omega
     have hw2 : IntKind.i64.wrap (u + x * y) = u + x * y := by rw [IntKind.wrap_i64]; omega
     have HN1 : Hid (TI A B (d.set j (u + x * y)) i (k + 1)) := by
      rw [HU.out, HX.out, HY.out, Hj.out]; exact HI.out.step HBl.out HAb.out HBb.out (by rw [HAl.out]; exact hlt) HAl.out hk17
     have HN2 := qaf (HW.out.set hq4 j (u + x * y)).drew
     clear hx hy hu p0 p1
     go_wp2_with fail
     go_region
     go_wp2_with fail
     exact ⟨⟨k + 1, _, by omega, by go_num, HN1, HN2⟩, by simp [intOf]; omega⟩
    ·
     obtain rfl : k = 17 := by omega
     have HN := qaf (HI.out.next HBl.out (by rw [HAl.out]; exact hlt))
     clear HI
     go_wp2_with fail
     exact ⟨⟨i + 1, d, by omega, by go_num, HN, HW⟩, by simp [intOf]; omega⟩
  ·
   obtain rfl : i = 17 := by omega
   have HT0 : Hid (TA ((a : Int) * b) C d 0) := by
    refine ⟨HI.out.l, ?_, fun x hx => by have := HI.out.b x hx; omega⟩
    have e := HI.out.val
    rw [List.take_of_length_le (show A.length ≤ 17 by rw [HAl.out]; exact Nat.le_refl _), HAv.out, HBv.out, List.take_zero] at e
    rw [e, List.take_zero]
    simp [vB]
   clear HI
   go_wp2_with fail
   go_loopw [10] (fun kV wr => ∃ (k : Nat) (d : List Int), k ≤ 17 ∧ kV = .int .i64 k ∧ Hid (TA ((a : Int) * b) C d k) ∧ Hid (TW w wr q A B C d)) (fun k _ => 17 - (intOf k).toNat)
   case atStart => exact ⟨0, d, Nat.zero_le _, rfl, HT0, HW⟩
   case round =>
    clear HT0 HW d
    obtain ⟨k, d, hk, rfl, HI, HW⟩ := hrel
    by_cases hk17 : k < 17
    ·
     have bk : (k : Int) < 17 := by omega
     have bk' : (k : Int) < 35 := by omega
     have cd := qaP HW.out.r4 k (by rw [HI.out.l]; omega)
     have cc := qaP HW.out.r2 k (by rw [HCl.out]; exact hk17)
     have f3 := frozen_of_row wr q k _ _ HW.out.r4
     obtain ⟨y, HY⟩ : ∃ y, Hid (y = C.getD k 0) := ⟨_, rfl⟩
     obtain ⟨u, HU⟩ : ∃ u, Hid (u = d.getD k 0) := ⟨_, rfl⟩
     rw [← HY.out] at cc
     rw [← HU.out] at cd
     have hy := HCb.out _ (qay (l := C) (i := k) (by rw [HCl.out]; exact hk17))
     rw [← HY.out] at hy
     have hu := HI.out.b _ (qay (l := d) (i := k) (by rw [HI.out.l]; omega))
     rw [← HU.out] at hu
     have hw2 : IntKind.i64.wrap (u + y) = u + y := by rw [IntKind.wrap_i64]; omega
     have HN1 : Hid (TA ((a : Int) * b) C (d.set k (u + y)) (k + 1)) := by
      rw [HU.out, HY.out]; exact HI.out.step HCl.out HCb.out hk17
     have HN2 := qaf (HW.out.set hq4 k (u + y)).drew
     clear hy hu
     go_wp2_with fail
     go_region
     go_wp2_with fail
     exact ⟨⟨k + 1, _, by omega, by go_num, HN1, HN2⟩, by simp [intOf]; omega⟩
    ·
     obtain rfl : k = 17 := by omega
     have HDv : Hid (vB 65536 d = ((a * b + c : Nat) : Int)) := by
      show _ = _
      refine tp_val a b c d ?_
      have e := HI.out.val
      rw [List.take_of_length_le (show C.length ≤ 17 by rw [HCl.out]; exact Nat.le_refl _), HCv.out] at e
      exact e
     have HDl := qaf HI.out.l
     have HDb : Hid (∀ x ∈ d, 0 ≤ x ∧ x ≤ 1241246662656) := fun x hx => by have := HI.out.b x hx; omega
     clear HI
     obtain ⟨D, ED⟩ : ∃ D, Hid (D = dB 65536 35 (vB 65536 d)) := ⟨_, qaf rfl⟩
     have DL : Hid (D.length = 35) := by rw [ED.out]; exact qaT _ _ _
     go_wp2_with fail
     go_loopw [11, 12, 13] (fun v u iV wr => ∃ (k : Nat), k ≤ 35 ∧ iV = .int .i64 k ∧ u = .int .i64 (qbi 65536 d k) ∧ Hid (Own wr (q + 1) 5 v ((twoB D k).map cv)) ∧ Hid (TW w wr q A B C d)) (fun _ _ i _ => 35 - (intOf i).toNat)
     case atStart => exact ⟨0, Nat.zero_le _, rfl, rfl, Own.nil _ _ _, HW⟩
     case round =>
      clear HW
      obtain ⟨k, hk, rfl, rfl, HO, HW⟩ := hrel
      by_cases hlt : k < 35
      ·
       have bk : (k : Int) < 35 := by omega
       have cd := qaP HW.out.r4 k (by rw [HDl.out]; exact hlt)
       obtain ⟨y, HY⟩ : ∃ y, Hid (y = d.getD k 0) := ⟨_, rfl⟩
       obtain ⟨u, HU⟩ : ∃ y, Hid (y = qbi 65536 d k) := ⟨_, rfl⟩
       rw [← HY.out] at cd
       rw [← HU.out]
       have hy := HDb.out _ (qay (l := d) (i := k) (by rw [HDl.out]; exact hlt))
       rw [← HY.out] at hy
       have hu := carry_nonneg d HDb.out k (by rw [HDl.out]; omega)
       rw [← HU.out] at hu
       obtain ⟨x, HX⟩ : ∃ x, Hid (x = y + u) := ⟨_, qaf rfl⟩
       have hw1 : IntKind.i64.wrap (y + u) = x := by rw [HX.out, IntKind.wrap_i64]; omega
       have x0 : 0 ≤ x := by rw [HX.out]; omega
       have x1 : x < 2305843009213693952 := by rw [HX.out]; omega
       have e1 : IntKind.i64.wrap (x.tdiv 65536) = x / 65536 := by rw [Int.tdiv_eq_ediv_of_nonneg x0, IntKind.wrap_i64]; omega
       have e2 : IntKind.i64.wrap (x.tdiv 256) = x / 256 := by rw [Int.tdiv_eq_ediv_of_nonneg x0, IntKind.wrap_i64]; omega
       have e3 : x.tmod 256 = x % 256 := Int.tmod_eq_emod_of_nonneg x0
       have e4 : (x / 256).tmod 256 = x / 256 % 256 := Int.tmod_eq_emod_of_nonneg (by omega)
       have HLn : Hid (((twoB D k).map cv).length = 2 * k) := by show _ = _; rw [List.length_map, qdn _ _ (by rw [DL.out]; omega)]
       have HSl : Hid (q + 1 ≤ wr.heap.size) := qae HW.out.r4
       clear hy hu
       go_wp2_with (first | (at_builtin; refine qa4 _ (by rfl) (.tmp 70) (.tmp 78) 89 (by rfl) (q + 1) 5 i0 (.int .u8 0) 1 underSlB HI0.out HZ0.out HZ1.out HZ2.out rfl _ _ (by rfl) (HO.out.alloc _) ⟨wr.heap.size, 0, none⟩ 2 2 [_, _] (by rfl) rfl (by exact cell_two_new _ _ _ _) (by intro u hu; simp at hu; rcases hu with rfl | rfl <;> rfl) (by rw [HLn.out]; unfold maxLen; omega) (by rw [HLn.out]; omega) (by have := HSl.out; simp; omega) ?_; intro v1 W2 hO2 hG2))
       have HD1 : Hid (D.getD k 0 = x % 65536) := by show _ = _; rw [ED.out, digit_at d HDl.out k hlt, ← HY.out, ← HU.out, ← HX.out]
       have HC1 : Hid (qbi 65536 d (k + 1) = x / 65536) := by show (d.getD k 0 + qbi 65536 d k) / 65536 = _; rw [← HY.out, ← HU.out, ← HX.out]
       have HO3 : Hid (Own W2 (q + 1) 5 v1 ((twoB D (k + 1)).map cv)) := by
        have e := hO2.out
        rw [vLoT, vHiT, ← HD1.out] at e
        rw [twoB_step D k (by rw [DL.out]; exact hlt), List.map_append]
        exact e
       have keep : ∀ g o, g < q + 1 → wr.heap[g]? = some o → W2.heap[g]? = some o := fun g o hg h => (hG2.out.block g (by have := HSl.out; simp; omega) (by intro hh; have := own_ge HO.out hh.symm; omega)).trans ((heap_alloc_old _ _ (qae h)).trans h)
       have HW3 : Hid (TW w W2 q A B C d) := ⟨keep _ _ (by omega) HW.out.r0, keep _ _ (by omega) HW.out.r1, keep _ _ (by omega) HW.out.r2, keep _ _ (by omega) HW.out.r3, keep _ _ (by omega) HW.out.r4, (HW.out.be.alloc HW.out.be.size _).grown hG2.out (by have := HSl.out; simp; omega) (fun g hg => by have := own_ge HO.out hg; omega)⟩
       clear HO HW hO2 hG2 cd keep hw1 e1 e2 e3 e4
       refine ⟨⟨v1, .int .i64 (x / 65536), .int .i64 ((k : Int) + 1), _, _, _, _, _, _, _, _, _, _, _, _, _, _, _, _, _, _, _, _, _, _, _, ⟨k + 1, by omega, by go_num, by rw [HC1.out], HO3, HW3⟩, rfl⟩, ?_⟩
       show 35 - (intOf (.int .i64 ((k : Int) + 1))).toNat < 35 - (intOf (.int .i64 (k : Int))).toNat
       simp [intOf]; omega
      ·
       obtain rfl : k = 35 := by omega
       have hfl : (twoB D 35).length = 70 := qdn _ _ (by rw [DL.out]; exact Nat.le_refl _)
       obtain ⟨go, capo, hv, _, _, _, _, hc⟩ := HO.out.form (by rw [List.length_map, hfl]; omega)
       rw [List.length_map, hfl] at hv
       subst hv
       obtain ⟨T, HT⟩ : ∃ T, Hid (T = qaL (twoB D 35)) := ⟨_, qaf rfl⟩
       have hcv : (convert 89 9 (.slice (some ⟨go, 0, none⟩) 70 capo)).run Tryz.prog wr = .ok (.string T) wr := by
        have e := run_convert_bytes_back (P := Tryz.prog) wr 89 9 5 ⟨go, 0, none⟩ capo (twoB D 35) underSlB (by kernel_rfl) (by kernel_rfl) (fun i hi => by
         rw [Addr.add_mid, Nat.zero_add, hc i (by rw [List.length_map]; exact hi), List.getElem?_map, List.getElem?_eq_getElem hi]
         rfl)
        rw [hfl] at e; rw [HT.out]; exact e
       have HTs : Hid (T.size = 70) := by show _ = _; rw [HT.out, qbY, hfl]
       have HR : Hid (((redAt T 0).map iv).toArray = sA (leB ((a * b + c) % qcB) 32)) := by
        show _ = _
        rw [HT.out, red_sA, ED.out, HDv.out, twoB_leB _ 35 35 (Nat.le_refl _), tp_num _ HV.out]
       have R3 := qaf HW.out.r3
       have BE := qaf HW.out.be
       clear HO hc hfl HW hk hlt
       go_wp2_with fail
       refine (reduced_any T (by rw [HTs.out]; decide) _).mono ?_
       rintro e W9 ⟨rfl, hB⟩
       have R3 := qaf (qaa R3.out hB)
       have BE := kTr BE hB
       clear hB hcv
       rw [HR.out]
       obtain ⟨l, El⟩ : ∃ l, Hid (l = leB ((a * b + c) % qcB) 32) := ⟨_, qaf rfl⟩
       rw [← El.out]
       go_wp2_with (first | (refine wpList_store_row (by rfl) 91 (.tmp 6) (.tmp 82) (by rfl) (w.heap.size + 3) (sA l) (by rfl) (by rfl) 91 _ R3.out (qbo _) (qeb _) (qd3 _) ?_))
       refine bodyPost_ret (v := .agg (sA l)) (results_cell_row Tryz.results39 _ _ (w.heap.size + 3) 91 _ (0, 0) _ (by rfl) (setRow_heap _ _ _ _ _ _ R3.out) qbw rfl (qbo _)) rfl ⟨by rw [El.out], below_setRow BE.out (by omega) _⟩
end
end Go.Proofs.YtccgfabojbjmjaaGreatDoor
