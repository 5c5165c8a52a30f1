import Derived.Test.YtccgfabojbjmjaaGreatDoorPx02
namespace Go.Proofs.YtccgfabojbjmjaaGreatDoor
open Go.RowKit
theorem results5 {fn : Func} {a b c d e : Tmp} (h : fn.results = #[.tmp a, .tmp b, .tmp c, .tmp d, .tmp e]) (tmps : Array Value) (P : Program) (w : World) :
  (results fn tmps).run P w = .ok (.tuple #[tmps.getD a undef, tmps.getD b undef, tmps.getD c undef, tmps.getD d undef, tmps.getD e undef]) w := by
 simp only [results, h]
 simp
set_option maxHeartbeats 1000000 in
theorem addTimes_new {n0 n1 n2 n3 m b0 b1 b2 b3 : Nat} (hn : Small4 n0 n1 n2 n3) (hm : m < 18446744073709551616) (hb : Small4 b0 b1 b2 b3) (w : World) :
  Calls Tryz.prog 143 #[nv n0, nv n1, nv n2, nv n3, nv m, w4 b0 b1 b2 b3] w fun e w' => ∃ r0 r1 r2 r3 r4, e = .returned (.tuple #[nv r0, nv r1, nv r2, nv r3, nv r4]) ∧
   (Small4 r0 r1 r2 r3 ∧ r4 < 18446744073709551616 ∧ of4 r0 r1 r2 r3 + 115792089237316195423570985008687907853269984665640564039457584007913129639936 * r4 = of4 n0 n1 n2 n3 + m * of4 b0 b1 b2 b3) ∧ Below w.heap.size w w' := by
 have HN := hide hn
 have HM := hide hm
 have HB := hide hb
 clear hn hm hb
 go_enter Tryz.func143, Tryz.ntmps143
 go_wp2_with fail
 refine (mulAdd_new0 m b0 n0 HM.out HB.out.h0 HN.out.h0 _).mono ?_
 rintro e W ⟨r0, c0, rfl, h0, rfl⟩
 have H0 := hide h0
 clear h0
 go_wp2_with fail
 refine (mulAdd_new m b1 n1 c0 HM.out HB.out.h1 HN.out.h1 H0.out.2.1 _).mono ?_
 rintro e W ⟨r1, c1, rfl, h1, rfl⟩
 have H1 := hide h1
 clear h1
 go_wp2_with fail
 refine (mulAdd_new m b2 n2 c1 HM.out HB.out.h2 HN.out.h2 H1.out.2.1 _).mono ?_
 rintro e W ⟨r2, c2, rfl, h2, rfl⟩
 have H2 := hide h2
 clear h2
 go_wp2_with fail
 refine (mulAdd_new m b3 n3 c2 HM.out HB.out.h3 HN.out.h3 H2.out.2.1 _).mono ?_
 rintro e W ⟨r3, c3, rfl, h3, rfl⟩
 have H3 := hide h3
 clear h3
 go_wp2_with fail
 refine bodyPost_ret (results5 Tryz.results143 _ _ _) rfl ?_
 refine ⟨r0, r1, r2, r3, c3, rfl, ⟨⟨H0.out.1, H1.out.1, H2.out.1, H3.out.1⟩, H3.out.2.1, ?_⟩, by go_grown⟩
 have e0 := H0.out.2.2
 have e1 := H1.out.2.2
 have e2 := H2.out.2.2
 have e3 := H3.out.2.2
 unfold of4
 rw [Nat.mul_add, Nat.mul_add, Nat.mul_add, Nat.mul_left_comm m, Nat.mul_left_comm m, Nat.mul_left_comm m]
 generalize m * b0 = p0 at *
 generalize m * b1 = p1 at *
 generalize m * b2 = p2 at *
 generalize m * b3 = p3 at *
 omega
set_option maxHeartbeats 1000000 in
theorem plus_any (a b : Nat) (ha : a < P) (hb : b < P) (w : World) :
  Calls Tryz.prog 120 #[num4 a, num4 b] w fun e w' => e = .returned (num4 ((a + b) % P)) ∧ Below w.heap.size w w' := by
 rw [P_val] at ha hb
 obtain ⟨a0, a1, a2, a3, sa, rfl⟩ := words4 a (by omega)
 obtain ⟨b0, b1, b2, b3, sb, rfl⟩ := words4 b (by omega)
 rw [num4_of sa, num4_of sb]
 have HA := hide sa
 have HB := hide sb
 have Ha := hide ha
 have Hb := hide hb
 clear sa sb ha hb
 go_enter Tryz.func120, Tryz.ntmps120
 go_wp2_with fail
 refine (add_new HA.out HB.out _).mono ?_
 rintro e W1 ⟨r0, r1, r2, r3, k, rfl, ⟨hs, hk, hE⟩, hB⟩
 have hsz := hB.size
 simp only [World.size_alloc] at hB hsz
 have HB0 : Hid (Below w.heap.size w W1) := ((((Below.refl _ w).alloc (Nat.le_refl _) _).alloc (by simp) _).alloc (by simp; omega) _).trans (hB.mono (by omega))
 have HR : Hid (W1.heap[w.heap.size + 2]? = some (.cells #[.int .u64 0, .int .u64 0, .int .u64 0, .int .u64 0] 80 (0, 0))) := (hB.block _ (by omega)).trans (by
  have := heap_alloc2_new (w.alloc (.cells #[nv a0, nv a1, nv a2, nv a3] 80)) (.cells #[nv b0, nv b1, nv b2, nv b3] 80) (.cells #[.int .u64 0, .int .u64 0, .int .u64 0, .int .u64 0] 80)
  rw [World.size_alloc] at this; exact this)
 have HS := hide hs
 have HE := hide hE
 have HK := hide hk
 clear hs hE hk hB
 go_wp2_with fail
 refine (reduce4_any HS.out (by have h1 := HE.out; have h2 := Ha.out; have h3 := Hb.out; rw [P_val]; omega) _).mono ?_
 rintro e W2 ⟨rfl, hB2⟩
 have hsz2 := hB2.size
 simp only [World.size_alloc] at hB2 hsz2
 have HB2 : Hid (Below w.heap.size w W2) := (HB0.out.alloc HB0.out.size _).trans (hB2.mono (by omega))
 have HR2 : Hid (W2.heap[w.heap.size + 2]? = some (.cells #[.int .u64 0, .int .u64 0, .int .u64 0, .int .u64 0] 80 (0, 0))) := (hB2.block _ (by omega)).trans ((heap_alloc_old _ _ (by omega)).trans HR.out)
 have hv : of4 r0 r1 r2 r3 % P = (of4 a0 a1 a2 a3 + of4 b0 b1 b2 b3) % P := by
  have h1 := HE.out; have h2 := Ha.out; have h3 := Hb.out; have h4 := HK.out
  have h5 := of4_lt HS.out
  congr 1
  omega
 rw [hv]
 have hlt : (of4 a0 a1 a2 a3 + of4 b0 b1 b2 b3) % P < P := Nat.mod_lt _ (by decide)
 obtain ⟨t0, t1, t2, t3, st, et⟩ := words4 ((of4 a0 a1 a2 a3 + of4 b0 b1 b2 b3) % P) (Nat.lt_trans hlt (by decide))
 have HT := hide (num4_eq st et)
 rw [HT.out]
 clear hB2 hv st hlt et
 go_wp2_with (first
   | (refine wpList_store_row (by rfl) 80 (.tmp 4) (.tmp 21) (by rfl) (w.heap.size + 2) #[nv t0, nv t1, nv t2, nv t3] (by rfl) (by rfl) 80 _ HR2.out size33 rfl (w4_cell _ _ _ _) ?_))
 refine bodyPost_ret (v := w4 t0 t1 t2 t3) (results_cell_row Tryz.results120 _ _ (w.heap.size + 2) 80 #[nv t0, nv t1, nv t2, nv t3] (0, 0) _ (by rfl) (setRow_heap _ _ _ _ _ _ HR2.out) under33 rfl size33) rfl ⟨by rw [HT.out], below_setRow HB2.out (by omega) _⟩
theorem addTimes_0 {m b0 b1 b2 b3 : Nat} (hm : m < 18446744073709551616) (hb : Small4 b0 b1 b2 b3) (w : World) :
  Calls Tryz.prog 143 #[.int .u64 0, .int .u64 0, .int .u64 0, .int .u64 0, nv m, w4 b0 b1 b2 b3] w fun e w' => ∃ r0 r1 r2 r3 r4, e = .returned (.tuple #[nv r0, nv r1, nv r2, nv r3, nv r4]) ∧
   (Small4 r0 r1 r2 r3 ∧ r4 < 18446744073709551616 ∧ of4 r0 r1 r2 r3 + 115792089237316195423570985008687907853269984665640564039457584007913129639936 * r4 = m * of4 b0 b1 b2 b3) ∧ Below w.heap.size w w' := by
 refine (addTimes_new (n0 := 0) (n1 := 0) (n2 := 0) (n3 := 0) ⟨by decide, by decide, by decide, by decide⟩ hm hb w).mono ?_
 rintro e w' ⟨r0, r1, r2, r3, r4, he, ⟨h1, h2, h3⟩, h4⟩
 refine ⟨r0, r1, r2, r3, r4, he, ⟨h1, h2, ?_⟩, h4⟩
 rw [show of4 0 0 0 0 = 0 from rfl, Nat.zero_add] at h3
 exact h3
theorem addTimes_38 {n0 n1 n2 n3 b0 b1 b2 b3 : Nat} (hn : Small4 n0 n1 n2 n3) (hb : Small4 b0 b1 b2 b3) (w : World) :
  Calls Tryz.prog 143 #[nv n0, nv n1, nv n2, nv n3, .int .u64 38, w4 b0 b1 b2 b3] w fun e w' => ∃ r0 r1 r2 r3 r4, e = .returned (.tuple #[nv r0, nv r1, nv r2, nv r3, nv r4]) ∧
   (Small4 r0 r1 r2 r3 ∧ r4 < 18446744073709551616 ∧ of4 r0 r1 r2 r3 + 115792089237316195423570985008687907853269984665640564039457584007913129639936 * r4 = of4 n0 n1 n2 n3 + 38 * of4 b0 b1 b2 b3) ∧ Below w.heap.size w w' :=
 addTimes_new (m := 38) hn (by decide) hb w
section
attribute [local go_sem] V_add
set_option maxHeartbeats 1000000 in
theorem minus_any (a b : Nat) (ha : a < P) (hb : b < P) (w : World) :
  Calls Tryz.prog 119 #[num4 a, num4 b] w fun e w' => e = .returned (num4 ((a + (P - b)) % P)) ∧ Below w.heap.size w w' := by
 rw [P_val] at ha hb
 obtain ⟨a0, a1, a2, a3, sa, rfl⟩ := words4 a (by omega)
 obtain ⟨b0, b1, b2, b3, sb, rfl⟩ := words4 b (by omega)
 rw [num4_of sa, num4_of sb]
 have HA := hide sa
 have HB := hide sb
 have Ha := hide ha
 have Hb := hide hb
 clear sa sb ha hb
 go_enter Tryz.func119, Tryz.ntmps119
 go_wp2_with fail
 refine (sub_new HA.out HB.out _).mono ?_
 rintro e W1 ⟨r0, r1, r2, r3, k, rfl, ⟨hs, hk, hE⟩, hB⟩
 have hsz := hB.size
 simp only [World.size_alloc] at hB hsz
 have HB0 : Hid (Below w.heap.size w W1) := ((((Below.refl _ w).alloc (Nat.le_refl _) _).alloc (by simp) _).alloc (by simp; omega) _).trans (hB.mono (by omega))
 have HR : Hid (W1.heap[w.heap.size + 2]? = some (.cells #[.int .u64 0, .int .u64 0, .int .u64 0, .int .u64 0] 80 (0, 0))) := (hB.block _ (by omega)).trans (by
  have := heap_alloc2_new (w.alloc (.cells #[nv a0, nv a1, nv a2, nv a3] 80)) (.cells #[nv b0, nv b1, nv b2, nv b3] 80) (.cells #[.int .u64 0, .int .u64 0, .int .u64 0, .int .u64 0] 80)
  rw [World.size_alloc] at this; exact this)
 have HS := hide hs
 have HE := hide hE
 have HK := hide hk
 have hm := V_mul19 k (by omega)
 clear hs hE hk hB
 obtain ⟨s, HSq⟩ : ∃ s, Hid (s = 19 * k) := ⟨_, rfl⟩
 rw [← HSq.out] at hm
 go_wp2_with fail
 refine (sub_new (b1 := 0) (b2 := 0) (b3 := 0) HS.out ⟨by have := HSq.out; have := HK.out; omega, by decide, by decide, by decide⟩ _).mono ?_
 rintro e W2 ⟨t0, t1, t2, t3, k2, rfl, ⟨hs2, hk2, hE2⟩, hB2⟩
 have hsz2 := hB2.size
 simp only [World.size_alloc] at hB2 hsz2
 have HB2 : Hid (Below w.heap.size w W2) := (HB0.out.alloc HB0.out.size _).trans (hB2.mono (by omega))
 have HR2 : Hid (W2.heap[w.heap.size + 2]? = some (.cells #[.int .u64 0, .int .u64 0, .int .u64 0, .int .u64 0] 80 (0, 0))) := (hB2.block _ (by omega)).trans ((heap_alloc_old _ _ (by omega)).trans HR.out)
 have HD2 : Hid (W2.heap[W1.heap.size]? = some (.cells #[nv r0, nv r1, nv r2, nv r3] 60 (0, 0))) := (hB2.block _ (by omega)).trans (heap_alloc_new _ _)
 have hand := V_and63 t3 hs2.h3
 have HV : Hid (num4 ((of4 a0 a1 a2 a3 + (P - of4 b0 b1 b2 b3)) % P) = w4 t0 t1 t2 (t3 % 9223372036854775808)) := by
  have h1 := HE.out; have h2 := Ha.out; have h3 := Hb.out; have h4 := HK.out; have h5 := HSq.out
  have h6 := of4_lt HS.out
  have h7 := of4_lt HA.out
  obtain ⟨q0, q1, q2, q3⟩ := hs2
  show _ = _
  apply num4_eq ⟨q0, q1, q2, by omega⟩
  rw [P_val]
  generalize of4 a0 a1 a2 a3 = a at *
  generalize of4 b0 b1 b2 b3 = b at *
  generalize of4 r0 r1 r2 r3 = r at *
  unfold of4 at *
  subst h5
  have : k = 0 ∨ k = 1 := by omega
  rcases this with rfl | rfl
  ·
   have e : (a + (57896044618658097711785492504343953926634992332820282019728792003956564819949 - b)) % 57896044618658097711785492504343953926634992332820282019728792003956564819949 = r := by omega
   rw [e]
   omega
  ·
   have e : (a + (57896044618658097711785492504343953926634992332820282019728792003956564819949 - b)) % 57896044618658097711785492504343953926634992332820282019728792003956564819949 = a + 57896044618658097711785492504343953926634992332820282019728792003956564819949 - b := by omega
   rw [e]
   omega
 obtain ⟨t4, HT4⟩ : ∃ t4, Hid (t4 = t3 % 9223372036854775808) := ⟨_, rfl⟩
 rw [← HT4.out] at hand HV
 clear hB2 hs2 hE2 hk2
 have k3 : (W2.setRow W1.heap.size #[nv t0, nv t1, nv t2, nv t3]).cell? ⟨W1.heap.size, 3, none⟩ = some (nv t3) := by
  rw [cell_of_row _ W1.heap.size 3 _ _ _ (setRow_heap _ _ _ #[nv t0, nv t1, nv t2, nv t3] _ _ HD2.out)]; rfl
 have f3 := frozen_of_row _ W1.heap.size 3 _ _ (setRow_heap _ _ _ #[nv t0, nv t1, nv t2, nv t3] _ _ HD2.out)
 have HD3 : Hid (((W2.setRow W1.heap.size #[nv t0, nv t1, nv t2, nv t3]).setCell ⟨W1.heap.size, 3, none⟩ (nv t4)).heap[W1.heap.size]? = some (.cells #[nv t0, nv t1, nv t2, nv t4] 60 (0, 0))) :=
  row_store (cs := [nv t0, nv t1, nv t2, nv t3]) (setRow_heap _ _ _ #[nv t0, nv t1, nv t2, nv t3] _ _ HD2.out) 3 _
 have HR3 : Hid (((W2.setRow W1.heap.size #[nv t0, nv t1, nv t2, nv t3]).setCell ⟨W1.heap.size, 3, none⟩ (nv t4)).heap[w.heap.size + 2]? = some (.cells #[.int .u64 0, .int .u64 0, .int .u64 0, .int .u64 0] 80 (0, 0))) :=
  (Below.heap_setCell _ _ _ _ (by show w.heap.size + 2 ≠ W1.heap.size; omega)).trans ((setRow_other _ _ _ _ (by omega)).trans HR2.out)
 go_wp2_with (first
   | (refine wpList_store_row (by rfl) 60 (.tmp 5) (.tmp 19) (by rfl) W1.heap.size #[nv t0, nv t1, nv t2, nv t3] (by rfl) (by rfl) 60 _ HD2.out size4 rfl (w4_cell _ _ _ _) ?_)
   | (refine wpList_load_row (by rfl) 60 (.tmp 5) (by rfl) W1.heap.size (by rfl) 60 #[nv t0, nv t1, nv t2, nv t4] (0, 0) _ HD3.out under4 rfl size4 ?_)
   | (refine wpList_store_row (by rfl) 80 (.tmp 4) (.tmp 25) (by rfl) (w.heap.size + 2) #[nv t0, nv t1, nv t2, nv t4] (by rfl) (by rfl) 80 _ HR3.out size33 rfl (w4_cell _ _ _ _) ?_))
 refine bodyPost_ret (v := w4 t0 t1 t2 t4) (results_cell_row Tryz.results119 _ _ (w.heap.size + 2) 80 #[nv t0, nv t1, nv t2, nv t4] (0, 0) _ (by rfl) (setRow_heap _ _ _ _ _ _ HR3.out) under33 rfl size33) rfl ⟨by rw [HV.out], below_setRow ((below_setRow HB2.out (by omega) _).setCell (by show _ ≤ _; simp; omega) _) (by omega) _⟩
end
end Go.Proofs.YtccgfabojbjmjaaGreatDoor
