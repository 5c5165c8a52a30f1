import Derived.Test.YtccgfabojbjmjaaGreatDoorPx06
import Derived.Test.YtccgfabojbjmjaaGreatDoorPx04
namespace Go.Proofs.YtccgfabojbjmjaaGreatDoor
open Go.RowKit
theorem V_shl1 (x : Nat) (h : x < 9223372036854775808) : IntKind.u64.wrap (V x * 2) = V (2 * x) := by unfold V; rw [IntKind.wrap_u64]; omega
theorem or_low1 (x y : Nat) (hx : 2 * x < 18446744073709551616) (hy : y < 2) : bits .or .u64 (V (2 * x)) (V y) = V (2 * x + y) := by
 unfold V
 rw [bits_or_u64_nat _ _ hx (by omega)]
 congr 1
 exact (Nat.two_pow_add_eq_or_of_lt (i := 1) hy x).symm
theorem times_mod {A B lo hi l h : Nat} (e1 : lo + 115792089237316195423570985008687907853269984665640564039457584007913129639936 * hi = A * B) (e2 : l + 115792089237316195423570985008687907853269984665640564039457584007913129639936 * h = lo + 38 * hi) :
  (l % 57896044618658097711785492504343953926634992332820282019728792003956564819968 + 19 * (2 * h + l / 57896044618658097711785492504343953926634992332820282019728792003956564819968)) % P = A * B % P := by
 rw [P_val, ← e1]
 omega
section
attribute [local go_sem] V_add
set_option maxRecDepth 100000 in
set_option maxHeartbeats 4000000 in
theorem times_any (a b : Nat) (ha : a < P) (hb : b < P) (w : World) :
  Calls Tryz.prog 93 #[num4 a, num4 b] w fun e w' => e = .returned (num4 (a * b % P)) ∧ Below w.heap.size w w' := by
 rw [P_val] at ha hb
 obtain ⟨a0, a1, a2, a3, sa, rfl⟩ := words4 a (by omega)
 obtain ⟨b0, b1, b2, b3, sb, rfl⟩ := words4 b (by omega)
 rw [num4_of sa, num4_of sb]
 have HA := hide sa
 have HB := hide sb
 have Ha := hide ha
 have Hb := hide hb
 clear sa sb ha hb
 go_enter Tryz.func93, Tryz.ntmps93
 go_wp2_with fail
 refine (addTimes_0 HA.out.h0 HB.out _).mono ?_
 rintro e W1 ⟨l0, m1, m2, m3, m4, rfl, h1, hB1⟩
 have hz1 := hB1.size
 simp only [World.size_alloc] at hB1 hz1
 have RA1 : Hid (W1.heap[w.heap.size]? = some (.cells #[nv a0, nv a1, nv a2, nv a3] 80 (0, 0))) := (hB1.block _ (by omega)).trans (heap3_0 _ _ _ _)
 have RB1 : Hid (W1.heap[w.heap.size + 1]? = some (.cells #[nv b0, nv b1, nv b2, nv b3] 80 (0, 0))) := (hB1.block _ (by omega)).trans (heap3_1 _ _ _ _)
 have RZ1 : Hid (W1.heap[w.heap.size + 2]? = some (.cells #[.int .u64 0, .int .u64 0, .int .u64 0, .int .u64 0] 80 (0, 0))) := (hB1.block _ (by omega)).trans (heap3_2 _ _ _ _)
 have BL1 : Hid (Below w.heap.size w W1) := ((((Below.refl _ w).alloc (Nat.le_refl _) _).alloc (by simp) _).alloc (by simp; omega) _).trans (hB1.mono (by omega))
 have H1 := hide h1
 clear h1 hB1
 have ca : W1.cell? ⟨w.heap.size, 1, none⟩ = some (nv a1) := by rw [cell_of_row W1 w.heap.size 1 _ _ _ RA1.out]; rfl
 have cb0 : W1.cell? ⟨w.heap.size + 1, 0, none⟩ = some (nv b0) := by rw [cell_of_row W1 (w.heap.size + 1) 0 _ _ _ RB1.out]; rfl
 have cb1 : W1.cell? ⟨w.heap.size + 1, 1, none⟩ = some (nv b1) := by rw [cell_of_row W1 (w.heap.size + 1) 1 _ _ _ RB1.out]; rfl
 have cb2 : W1.cell? ⟨w.heap.size + 1, 2, none⟩ = some (nv b2) := by rw [cell_of_row W1 (w.heap.size + 1) 2 _ _ _ RB1.out]; rfl
 have cb3 : W1.cell? ⟨w.heap.size + 1, 3, none⟩ = some (nv b3) := by rw [cell_of_row W1 (w.heap.size + 1) 3 _ _ _ RB1.out]; rfl
 go_wp2_with fail
 clear ca cb0 cb1 cb2 cb3
 refine (addTimes_new ⟨H1.out.1.h1, H1.out.1.h2, H1.out.1.h3, H1.out.2.1⟩ HA.out.h1 HB.out _).mono ?_
 rintro e W2 ⟨l1, n1, n2, n3, n4, rfl, h2, hB2⟩
 have hz2 := hB2.size
 have RA2 : Hid (W2.heap[w.heap.size]? = some (.cells #[nv a0, nv a1, nv a2, nv a3] 80 (0, 0))) := (hB2.block _ (by omega)).trans RA1.out
 have RB2 : Hid (W2.heap[w.heap.size + 1]? = some (.cells #[nv b0, nv b1, nv b2, nv b3] 80 (0, 0))) := (hB2.block _ (by omega)).trans RB1.out
 have RZ2 : Hid (W2.heap[w.heap.size + 2]? = some (.cells #[.int .u64 0, .int .u64 0, .int .u64 0, .int .u64 0] 80 (0, 0))) := (hB2.block _ (by omega)).trans RZ1.out
 have BL2 : Hid (Below w.heap.size w W2) := BL1.out.trans (hB2.mono (by omega))
 clear RA1 RB1 RZ1 BL1
 have H2 := hide h2
 clear h2 hB2
 have ca : W2.cell? ⟨w.heap.size, 2, none⟩ = some (nv a2) := by rw [cell_of_row W2 w.heap.size 2 _ _ _ RA2.out]; rfl
 have cb0 : W2.cell? ⟨w.heap.size + 1, 0, none⟩ = some (nv b0) := by rw [cell_of_row W2 (w.heap.size + 1) 0 _ _ _ RB2.out]; rfl
 have cb1 : W2.cell? ⟨w.heap.size + 1, 1, none⟩ = some (nv b1) := by rw [cell_of_row W2 (w.heap.size + 1) 1 _ _ _ RB2.out]; rfl
 have cb2 : W2.cell? ⟨w.heap.size + 1, 2, none⟩ = some (nv b2) := by rw [cell_of_row W2 (w.heap.size + 1) 2 _ _ _ RB2.out]; rfl
 have cb3 : W2.cell? ⟨w.heap.size + 1, 3, none⟩ = some (nv b3) := by rw [cell_of_row W2 (w.heap.size + 1) 3 _ _ _ RB2.out]; rfl
 go_wp2_with fail
 clear ca cb0 cb1 cb2 cb3
 refine (addTimes_new ⟨H2.out.1.h1, H2.out.1.h2, H2.out.1.h3, H2.out.2.1⟩ HA.out.h2 HB.out _).mono ?_
 rintro e W3 ⟨l2, o1, o2, o3, o4, rfl, h3, hB3⟩
 have hz3 := hB3.size
 have RA3 : Hid (W3.heap[w.heap.size]? = some (.cells #[nv a0, nv a1, nv a2, nv a3] 80 (0, 0))) := (hB3.block _ (by omega)).trans RA2.out
 have RB3 : Hid (W3.heap[w.heap.size + 1]? = some (.cells #[nv b0, nv b1, nv b2, nv b3] 80 (0, 0))) := (hB3.block _ (by omega)).trans RB2.out
 have RZ3 : Hid (W3.heap[w.heap.size + 2]? = some (.cells #[.int .u64 0, .int .u64 0, .int .u64 0, .int .u64 0] 80 (0, 0))) := (hB3.block _ (by omega)).trans RZ2.out
 have BL3 : Hid (Below w.heap.size w W3) := BL2.out.trans (hB3.mono (by omega))
 clear RA2 RB2 RZ2 BL2
 have H3 := hide h3
 clear h3 hB3
 have ca : W3.cell? ⟨w.heap.size, 3, none⟩ = some (nv a3) := by rw [cell_of_row W3 w.heap.size 3 _ _ _ RA3.out]; rfl
 have cb0 : W3.cell? ⟨w.heap.size + 1, 0, none⟩ = some (nv b0) := by rw [cell_of_row W3 (w.heap.size + 1) 0 _ _ _ RB3.out]; rfl
 have cb1 : W3.cell? ⟨w.heap.size + 1, 1, none⟩ = some (nv b1) := by rw [cell_of_row W3 (w.heap.size + 1) 1 _ _ _ RB3.out]; rfl
 have cb2 : W3.cell? ⟨w.heap.size + 1, 2, none⟩ = some (nv b2) := by rw [cell_of_row W3 (w.heap.size + 1) 2 _ _ _ RB3.out]; rfl
 have cb3 : W3.cell? ⟨w.heap.size + 1, 3, none⟩ = some (nv b3) := by rw [cell_of_row W3 (w.heap.size + 1) 3 _ _ _ RB3.out]; rfl
 go_wp2_with fail
 clear ca cb0 cb1 cb2 cb3
 refine (addTimes_new ⟨H3.out.1.h1, H3.out.1.h2, H3.out.1.h3, H3.out.2.1⟩ HA.out.h3 HB.out _).mono ?_
 rintro e W4 ⟨l3, p1, p2, p3, p4, rfl, h4, hB4⟩
 have hz4 := hB4.size
 have RA4 : Hid (W4.heap[w.heap.size]? = some (.cells #[nv a0, nv a1, nv a2, nv a3] 80 (0, 0))) := (hB4.block _ (by omega)).trans RA3.out
 have RB4 : Hid (W4.heap[w.heap.size + 1]? = some (.cells #[nv b0, nv b1, nv b2, nv b3] 80 (0, 0))) := (hB4.block _ (by omega)).trans RB3.out
 have RZ4 : Hid (W4.heap[w.heap.size + 2]? = some (.cells #[.int .u64 0, .int .u64 0, .int .u64 0, .int .u64 0] 80 (0, 0))) := (hB4.block _ (by omega)).trans RZ3.out
 have BL4 : Hid (Below w.heap.size w W4) := BL3.out.trans (hB4.mono (by omega))
 clear RA3 RB3 RZ3 BL3
 have H4 := hide h4
 clear h4 hB4
 go_wp2_with fail
 refine (addTimes_38 ⟨H1.out.1.h0, H2.out.1.h0, H3.out.1.h0, H4.out.1.h0⟩ ⟨H4.out.1.h1, H4.out.1.h2, H4.out.1.h3, H4.out.2.1⟩ _).mono ?_
 rintro e W5 ⟨k0, k1, k2, k3, hi, rfl, h5, hB5⟩
 have hz5 := hB5.size
 have RA5 : Hid (W5.heap[w.heap.size]? = some (.cells #[nv a0, nv a1, nv a2, nv a3] 80 (0, 0))) := (hB5.block _ (by omega)).trans RA4.out
 have RB5 : Hid (W5.heap[w.heap.size + 1]? = some (.cells #[nv b0, nv b1, nv b2, nv b3] 80 (0, 0))) := (hB5.block _ (by omega)).trans RB4.out
 have RZ5 : Hid (W5.heap[w.heap.size + 2]? = some (.cells #[.int .u64 0, .int .u64 0, .int .u64 0, .int .u64 0] 80 (0, 0))) := (hB5.block _ (by omega)).trans RZ4.out
 have BL5 : Hid (Below w.heap.size w W5) := BL4.out.trans (hB5.mono (by omega))
 clear RA4 RB4 RZ4 BL4
 have H5 := hide h5
 clear h5 hB5
 have e1 : of4 l0 l1 l2 l3 + 115792089237316195423570985008687907853269984665640564039457584007913129639936 * of4 p1 p2 p3 p4 = of4 a0 a1 a2 a3 * of4 b0 b1 b2 b3 := by
  have f1 := H1.out.2.2; have f2 := H2.out.2.2; have f3 := H3.out.2.2; have f4 := H4.out.2.2
  rw [show of4 a0 a1 a2 a3 * of4 b0 b1 b2 b3 = a0 * of4 b0 b1 b2 b3 + 18446744073709551616 * (a1 * of4 b0 b1 b2 b3) + 340282366920938463463374607431768211456 * (a2 * of4 b0 b1 b2 b3) + 6277101735386680763835789423207666416102355444464034512896 * (a3 * of4 b0 b1 b2 b3) by
   conv => lhs; unfold of4
   rw [Nat.add_mul, Nat.add_mul, Nat.add_mul, Nat.mul_assoc, Nat.mul_assoc, Nat.mul_assoc]; rfl]
  generalize a0 * of4 b0 b1 b2 b3 = x0 at *
  generalize a1 * of4 b0 b1 b2 b3 = x1 at *
  generalize a2 * of4 b0 b1 b2 b3 = x2 at *
  generalize a3 * of4 b0 b1 b2 b3 = x3 at *
  unfold of4 at *
  omega
 have e2 := H5.out.2.2
 have hh : hi ≤ 38 := by
  have b1 := of4_lt (show Small4 l0 l1 l2 l3 from ⟨H1.out.1.h0, H2.out.1.h0, H3.out.1.h0, H4.out.1.h0⟩)
  have b2 := of4_lt (show Small4 p1 p2 p3 p4 from ⟨H4.out.1.h1, H4.out.1.h2, H4.out.1.h3, H4.out.2.1⟩)
  omega
 have HM := hide (times_mod e1 e2)
 have HK := hide H5.out.1
 have HH := hide hh
 clear H1 H2 H3 H4 H5 e1 e2
 obtain ⟨o, HOq⟩ : ∃ o, Hid (o = 2 * hi + k3 / 9223372036854775808) := ⟨_, rfl⟩
 have q1 := V_shl1 hi (by omega)
 have q2 := V_shr63 k3
 have q3 := or_low1 hi (k3 / 9223372036854775808) (by omega) (by have := HK.out.h3; omega)
 rw [← HOq.out] at q3
 have ob : o ≤ 77 := by have := HOq.out; have := HK.out.h3; omega
 have q4 := V_mul19 o (by omega)
 obtain ⟨s, HSq⟩ : ∃ s, Hid (s = 19 * o) := ⟨_, rfl⟩
 rw [← HSq.out] at q4
 have sb : s ≤ 1463 := by have := HSq.out; omega
 have d0 : carW k0 s 0 ≤ 1 := carW_le HK.out.h0 (by omega) (by decide)
 have d1 : carW k1 0 (carW k0 s 0) ≤ 1 := carW_le HK.out.h1 (by decide) d0
 have d2 : carW k2 0 (carW k1 0 (carW k0 s 0)) ≤ 1 := carW_le HK.out.h2 (by decide) d1
 have g1 := add64_run0 k0 s
 have g2 := add64_c k1 _ d0
 have g3 := add64_c k2 _ d1
 have g4 := V_and63 k3 HK.out.h3
 obtain ⟨v, HVq⟩ : ∃ v, Hid (v = (k3 % 9223372036854775808 + carW k2 0 (carW k1 0 (carW k0 s 0))) % 18446744073709551616) := ⟨_, rfl⟩
 have g5 := V_add (k3 % 9223372036854775808) (carW k2 0 (carW k1 0 (carW k0 s 0)))
 rw [← HVq.out] at g5
 have HF : Hid (Small4 (sumW k0 s 0) (sumW k1 0 (carW k0 s 0)) (sumW k2 0 (carW k1 0 (carW k0 s 0))) v ∧ of4 (sumW k0 s 0) (sumW k1 0 (carW k0 s 0)) (sumW k2 0 (carW k1 0 (carW k0 s 0))) v = of4 k0 k1 k2 k3 % 57896044618658097711785492504343953926634992332820282019728792003956564819968 + 19 * (2 * hi + of4 k0 k1 k2 k3 / 57896044618658097711785492504343953926634992332820282019728792003956564819968)) := by
  have f0 := @sumW_eq k0 s 0
  have f1 := @sumW_eq k1 0 (carW k0 s 0)
  have f2 := @sumW_eq k2 0 (carW k1 0 (carW k0 s 0))
  have u0 := sumW_lt k0 s 0
  have u1 := sumW_lt k1 0 (carW k0 s 0)
  have u2 := sumW_lt k2 0 (carW k1 0 (carW k0 s 0))
  have hv := HVq.out; have hs := HSq.out; have ho := HOq.out
  obtain ⟨y0, y1, y2, y3⟩ := HK.out
  clear g1 g2 g3 g4 g5 q1 q2 q3 q4
  generalize carW k2 0 (carW k1 0 (carW k0 s 0)) = c2 at *
  generalize sumW k2 0 (carW k1 0 (carW k0 s 0)) = s2 at *
  generalize sumW k1 0 (carW k0 s 0) = s1 at *
  generalize carW k1 0 (carW k0 s 0) = c1 at *
  generalize sumW k0 s 0 = s0 at *
  generalize carW k0 s 0 = c0 at *
  have hv' : v = k3 % 9223372036854775808 + c2 := by omega
  refine ⟨⟨u0, u1, u2, by omega⟩, ?_⟩
  have eq : of4 k0 k1 k2 k3 / 57896044618658097711785492504343953926634992332820282019728792003956564819968 = k3 / 9223372036854775808 := by unfold of4; omega
  have em : of4 k0 k1 k2 k3 % 57896044618658097711785492504343953926634992332820282019728792003956564819968 = of4 k0 k1 k2 (k3 % 9223372036854775808) := by unfold of4; omega
  rw [eq, em, ← ho, ← hs, hv']
  unfold of4
  omega
 clear d0 d1 d2 ob sb
 go_wp2_with fail
 refine (reduce4_any HF.out.1 (by
  rw [HF.out.2, P_val]
  have h1 := HK.out.h3; have h2 := of4_lt HK.out; have h3 := HH.out
  omega) _).mono ?_
 rintro e W6 ⟨rfl, hB6⟩
 rw [HF.out.2, HM.out]
 have hz6 := hB6.size
 have RZ6 : Hid (W6.heap[w.heap.size + 2]? = some (.cells #[.int .u64 0, .int .u64 0, .int .u64 0, .int .u64 0] 80 (0, 0))) := (hB6.block _ (by omega)).trans RZ5.out
 have BL6 : Hid (Below w.heap.size w W6) := BL5.out.trans (hB6.mono (by omega))
 have hlt : of4 a0 a1 a2 a3 * of4 b0 b1 b2 b3 % P < P := Nat.mod_lt _ (by decide)
 obtain ⟨t0, t1, t2, t3, st, et⟩ := words4 (of4 a0 a1 a2 a3 * of4 b0 b1 b2 b3 % P) (Nat.lt_trans hlt (by decide))
 have HT := hide (num4_eq st et)
 rw [HT.out]
 clear hB6 st hlt et RA5 RB5 RZ5 BL5
 go_wp2_with (first
   | (refine wpList_store_row (by rfl) 80 (.tmp 4) (.tmp 115) (by rfl) (w.heap.size + 2) #[nv t0, nv t1, nv t2, nv t3] (by rfl) (by rfl) 80 _ RZ6.out size33 rfl (w4_cell _ _ _ _) ?_))
 refine bodyPost_ret (v := w4 t0 t1 t2 t3) (results_cell_row Tryz.results93 _ _ (w.heap.size + 2) 80 #[nv t0, nv t1, nv t2, nv t3] (0, 0) _ (by rfl) (setRow_heap _ _ _ _ _ _ RZ6.out) under33 rfl size33) rfl ⟨by rw [HT.out], below_setRow BL6.out (by omega) _⟩
end
end Go.Proofs.YtccgfabojbjmjaaGreatDoor
