import Derived.Test.YtccgfabojbjmjaaGreatDoorLo03
import Derived.Test.YtccgfabojbjmjaaGreatDoorLo05
set_option maxRecDepth 100000
set_option maxHeartbeats 8000000
namespace Go.Proofs.YtccgfabojbjmjaaGreatDoor
open Go.RowKit
open Go.RowKit
theorem qsF (x : Nat) (h : x < 9223372036854775808) : IntKind.u64.wrap (V x * 2) = V (2 * x) := by unfold V; rw [Zf]; omega
theorem qqe (x y : Nat) (hx : 2 * x < 18446744073709551616) (hy : y < 2) : bits .or .u64 (V (2 * x)) (V y) = V (2 * x + y) := by
 unfold V
 rw [bits_or_u64_nat _ _ hx (by omega)]
 congr 1
 exact (Nat.two_pow_add_eq_or_of_lt (i := 1) hy x).symm
theorem qmO {A B lo hi l h : Nat} (e1 : lo + 115792089237316195423570985008687907853269984665640564039457584007913129639936 * hi = A * B) (e2 : l + 115792089237316195423570985008687907853269984665640564039457584007913129639936 * h = lo + 38 * hi) :
  (l % 57896044618658097711785492504343953926634992332820282019728792003956564819968 + 19 * (2 * h + l / 57896044618658097711785492504343953926634992332820282019728792003956564819968)) % P = A * B % P := by
 rw [Zw, ← e1]
 omega
section
attribute [local go_sem] qiU
theorem qlJ (a b : Nat) (ha : a < P) (hb : b < P) (w : World) :
  zC 93 #[QD a, QD b] w (QD (a * b % P)) := by
 rw [Zw] at ha hb
 obtain ⟨a0, a1, a2, a3, sa, rfl⟩ := JY a (by omega)
 obtain ⟨b0, b1, b2, b3, sb, rfl⟩ := JY b (by omega)
 rw [Jg sa, Jg sb]
 have HA := qa sa
 have HB := qa sb
 have Ha := qa ha
 have Hb := qa hb
 clear sa sb ha hb
 go_enter Tryz.func93, Tryz.ntmps93
 go_wp2_with fail
 refine (qjN HA.o.h0 HB.o _).mono ?_
 rintro e W1 ⟨l0, m1, m2, m3, m4, rfl, h1, hB1⟩
 have hz1 := hB1.size
 simp only [zB, World.size_alloc] at hB1 hz1
 have RA1 : Hid (qi W1 w.heap.size #[nv a0, nv a1, nv a2, nv a3] 80) := (hB1.block _ (by omega)).trans (JO _ _ _ _)
 have RB1 : Hid (qi W1 (w.heap.size + 1) #[nv b0, nv b1, nv b2, nv b3] 80) := (hB1.block _ (by omega)).trans (Jm _ _ _ _)
 have RZ1 : Hid (qi W1 (w.heap.size + 2) #[.int .u64 0, .int .u64 0, .int .u64 0, .int .u64 0] 80) := (hB1.block _ (by omega)).trans (Jb _ _ _ _)
 have BL1 : Hid (zB w W1) := ((((zJ _ w).alloc (zm _) _).alloc (by simp) _).alloc (by simp; omega) _).trans (hB1.mono (by omega))
 have H1 := qa h1
 clear h1 hB1
 have ca : W1.cell? ⟨w.heap.size, 1, none⟩ = some (nv a1) := by rw [zj W1 w.heap.size 1 _ _ _ RA1.o]; rfl
 have cb0 : W1.cell? ⟨w.heap.size + 1, 0, none⟩ = some (nv b0) := by rw [zj W1 (w.heap.size + 1) 0 _ _ _ RB1.o]; rfl
 have cb1 : W1.cell? ⟨w.heap.size + 1, 1, none⟩ = some (nv b1) := by rw [zj W1 (w.heap.size + 1) 1 _ _ _ RB1.o]; rfl
 have cb2 : W1.cell? ⟨w.heap.size + 1, 2, none⟩ = some (nv b2) := by rw [zj W1 (w.heap.size + 1) 2 _ _ _ RB1.o]; rfl
 have cb3 : W1.cell? ⟨w.heap.size + 1, 3, none⟩ = some (nv b3) := by rw [zj W1 (w.heap.size + 1) 3 _ _ _ RB1.o]; rfl
 go_wp2_with fail
 clear ca cb0 cb1 cb2 cb3
 refine (qay ⟨H1.o.1.h1, H1.o.1.h2, H1.o.1.h3, H1.o.2.1⟩ HA.o.h1 HB.o _).mono ?_
 rintro e W2 ⟨l1, n1, n2, n3, n4, rfl, h2, hB2⟩
 have hz2 := hB2.size
 have RA2 : Hid (qi W2 w.heap.size #[nv a0, nv a1, nv a2, nv a3] 80) := (hB2.block _ (by omega)).trans RA1.o
 have RB2 : Hid (qi W2 (w.heap.size + 1) #[nv b0, nv b1, nv b2, nv b3] 80) := (hB2.block _ (by omega)).trans RB1.o
 have RZ2 : Hid (qi W2 (w.heap.size + 2) #[.int .u64 0, .int .u64 0, .int .u64 0, .int .u64 0] 80) := (hB2.block _ (by omega)).trans RZ1.o
 have BL2 : Hid (zB w W2) := BL1.o.trans (hB2.mono (by omega))
 clear RA1 RB1 RZ1 BL1
 have H2 := qa h2
 clear h2 hB2
 have ca : W2.cell? ⟨w.heap.size, 2, none⟩ = some (nv a2) := by rw [zj W2 w.heap.size 2 _ _ _ RA2.o]; rfl
 have cb0 : W2.cell? ⟨w.heap.size + 1, 0, none⟩ = some (nv b0) := by rw [zj W2 (w.heap.size + 1) 0 _ _ _ RB2.o]; rfl
 have cb1 : W2.cell? ⟨w.heap.size + 1, 1, none⟩ = some (nv b1) := by rw [zj W2 (w.heap.size + 1) 1 _ _ _ RB2.o]; rfl
 have cb2 : W2.cell? ⟨w.heap.size + 1, 2, none⟩ = some (nv b2) := by rw [zj W2 (w.heap.size + 1) 2 _ _ _ RB2.o]; rfl
 have cb3 : W2.cell? ⟨w.heap.size + 1, 3, none⟩ = some (nv b3) := by rw [zj W2 (w.heap.size + 1) 3 _ _ _ RB2.o]; rfl
 go_wp2_with fail
 clear ca cb0 cb1 cb2 cb3
 refine (qay ⟨H2.o.1.h1, H2.o.1.h2, H2.o.1.h3, H2.o.2.1⟩ HA.o.h2 HB.o _).mono ?_
 rintro e W3 ⟨l2, o1, o2, o3, o4, rfl, h3, hB3⟩
 have hz3 := hB3.size
 have RA3 : Hid (qi W3 w.heap.size #[nv a0, nv a1, nv a2, nv a3] 80) := (hB3.block _ (by omega)).trans RA2.o
 have RB3 : Hid (qi W3 (w.heap.size + 1) #[nv b0, nv b1, nv b2, nv b3] 80) := (hB3.block _ (by omega)).trans RB2.o
 have RZ3 : Hid (qi W3 (w.heap.size + 2) #[.int .u64 0, .int .u64 0, .int .u64 0, .int .u64 0] 80) := (hB3.block _ (by omega)).trans RZ2.o
 have BL3 : Hid (zB w W3) := BL2.o.trans (hB3.mono (by omega))
 clear RA2 RB2 RZ2 BL2
 have H3 := qa h3
 clear h3 hB3
 have ca : W3.cell? ⟨w.heap.size, 3, none⟩ = some (nv a3) := by rw [zj W3 w.heap.size 3 _ _ _ RA3.o]; rfl
 have cb0 : W3.cell? ⟨w.heap.size + 1, 0, none⟩ = some (nv b0) := by rw [zj W3 (w.heap.size + 1) 0 _ _ _ RB3.o]; rfl
 have cb1 : W3.cell? ⟨w.heap.size + 1, 1, none⟩ = some (nv b1) := by rw [zj W3 (w.heap.size + 1) 1 _ _ _ RB3.o]; rfl
 have cb2 : W3.cell? ⟨w.heap.size + 1, 2, none⟩ = some (nv b2) := by rw [zj W3 (w.heap.size + 1) 2 _ _ _ RB3.o]; rfl
 have cb3 : W3.cell? ⟨w.heap.size + 1, 3, none⟩ = some (nv b3) := by rw [zj W3 (w.heap.size + 1) 3 _ _ _ RB3.o]; rfl
 go_wp2_with fail
 clear ca cb0 cb1 cb2 cb3
 refine (qay ⟨H3.o.1.h1, H3.o.1.h2, H3.o.1.h3, H3.o.2.1⟩ HA.o.h3 HB.o _).mono ?_
 rintro e W4 ⟨l3, p1, p2, p3, p4, rfl, h4, hB4⟩
 have hz4 := hB4.size
 have RA4 : Hid (qi W4 w.heap.size #[nv a0, nv a1, nv a2, nv a3] 80) := (hB4.block _ (by omega)).trans RA3.o
 have RB4 : Hid (qi W4 (w.heap.size + 1) #[nv b0, nv b1, nv b2, nv b3] 80) := (hB4.block _ (by omega)).trans RB3.o
 have RZ4 : Hid (qi W4 (w.heap.size + 2) #[.int .u64 0, .int .u64 0, .int .u64 0, .int .u64 0] 80) := (hB4.block _ (by omega)).trans RZ3.o
 have BL4 : Hid (zB w W4) := BL3.o.trans (hB4.mono (by omega))
 clear RA3 RB3 RZ3 BL3
 have H4 := qa h4
 clear h4 hB4
 go_wp2_with fail
 refine (qgQ ⟨H1.o.1.h0, H2.o.1.h0, H3.o.1.h0, H4.o.1.h0⟩ ⟨H4.o.1.h1, H4.o.1.h2, H4.o.1.h3, H4.o.2.1⟩ _).mono ?_
 rintro e W5 ⟨k0, k1, k2, k3, hi, rfl, h5, hB5⟩
 have hz5 := hB5.size
 have RA5 : Hid (qi W5 w.heap.size #[nv a0, nv a1, nv a2, nv a3] 80) := (hB5.block _ (by omega)).trans RA4.o
 have RB5 : Hid (qi W5 (w.heap.size + 1) #[nv b0, nv b1, nv b2, nv b3] 80) := (hB5.block _ (by omega)).trans RB4.o
 have RZ5 : Hid (qi W5 (w.heap.size + 2) #[.int .u64 0, .int .u64 0, .int .u64 0, .int .u64 0] 80) := (hB5.block _ (by omega)).trans RZ4.o
 have BL5 : Hid (zB w W5) := BL4.o.trans (hB5.mono (by omega))
 clear RA4 RB4 RZ4 BL4
 have H5 := qa h5
 clear h5 hB5
 have e1 : qJ l0 l1 l2 l3 + 115792089237316195423570985008687907853269984665640564039457584007913129639936 * qJ p1 p2 p3 p4 = qJ a0 a1 a2 a3 * qJ b0 b1 b2 b3 := by
  have f1 := H1.o.2.2; have f2 := H2.o.2.2; have f3 := H3.o.2.2; have f4 := H4.o.2.2
  rw [show qJ a0 a1 a2 a3 * qJ b0 b1 b2 b3 = a0 * qJ b0 b1 b2 b3 + 18446744073709551616 * (a1 * qJ b0 b1 b2 b3) + 340282366920938463463374607431768211456 * (a2 * qJ b0 b1 b2 b3) + 6277101735386680763835789423207666416102355444464034512896 * (a3 * qJ b0 b1 b2 b3) by
   conv => lhs; unfold qJ
   rw [Nat.add_mul, Nat.add_mul, Nat.add_mul, Zm, Zm, Zm]; rfl]
  generalize a0 * qJ b0 b1 b2 b3 = x0 at *
  generalize a1 * qJ b0 b1 b2 b3 = x1 at *
  generalize a2 * qJ b0 b1 b2 b3 = x2 at *
  generalize a3 * qJ b0 b1 b2 b3 = x3 at *
  unfold qJ at *
  omega
 have e2 := H5.o.2.2
 have hh : hi ≤ 38 := by
  have b1 := yE (show Qd l0 l1 l2 l3 from ⟨H1.o.1.h0, H2.o.1.h0, H3.o.1.h0, H4.o.1.h0⟩)
  have b2 := yE (show Qd p1 p2 p3 p4 from ⟨H4.o.1.h1, H4.o.1.h2, H4.o.1.h3, H4.o.2.1⟩)
  omega
 have HM := qa (qmO e1 e2)
 have HK := qa H5.o.1
 have HH := qa hh
 clear H1 H2 H3 H4 H5 e1 e2
 obtain ⟨o, HOq⟩ := zx (2 * hi + k3 / 9223372036854775808)
 have q1 := qsF hi (by omega)
 have q2 := qmw k3
 have q3 := qqe hi (k3 / 9223372036854775808) (by omega) (by have := HK.o.h3; omega)
 rw [← HOq.o] at q3
 have ob : o ≤ 77 := by have := HOq.o; have := HK.o.h3; omega
 have q4 := qhe o (by omega)
 obtain ⟨s, HSq⟩ := zx (19 * o)
 rw [← HSq.o] at q4
 have sb : s ≤ 1463 := by have := HSq.o; omega
 have d0 : qu k0 s 0 ≤ 1 := yu HK.o.h0 (by omega) (by decide)
 have d1 : qu k1 0 (qu k0 s 0) ≤ 1 := yu HK.o.h1 (by decide) d0
 have d2 : qu k2 0 (qu k1 0 (qu k0 s 0)) ≤ 1 := yu HK.o.h2 (by decide) d1
 have g1 := qaQ k0 s
 have g2 := qcq k1 _ d0
 have g3 := qcq k2 _ d1
 have g4 := qgH k3 HK.o.h3
 obtain ⟨v, HVq⟩ := zx ((k3 % 9223372036854775808 + qu k2 0 (qu k1 0 (qu k0 s 0))) % 18446744073709551616)
 have g5 := qiU (k3 % 9223372036854775808) (qu k2 0 (qu k1 0 (qu k0 s 0)))
 rw [← HVq.o] at g5
 have HF : Hid (Qd (jq k0 s 0) (jq k1 0 (qu k0 s 0)) (jq k2 0 (qu k1 0 (qu k0 s 0))) v ∧ qJ (jq k0 s 0) (jq k1 0 (qu k0 s 0)) (jq k2 0 (qu k1 0 (qu k0 s 0))) v = qJ k0 k1 k2 k3 % 57896044618658097711785492504343953926634992332820282019728792003956564819968 + 19 * (2 * hi + qJ k0 k1 k2 k3 / 57896044618658097711785492504343953926634992332820282019728792003956564819968)) := by
  have f0 := @sumW_eq k0 s 0
  have f1 := @sumW_eq k1 0 (qu k0 s 0)
  have f2 := @sumW_eq k2 0 (qu k1 0 (qu k0 s 0))
  have u0 := JM k0 s 0
  have u1 := JM k1 0 (qu k0 s 0)
  have u2 := JM k2 0 (qu k1 0 (qu k0 s 0))
  have hv := HVq.o; have hs := HSq.o; have ho := HOq.o
  obtain ⟨y0, y1, y2, y3⟩ := HK.o
  clear g1 g2 g3 g4 g5 q1 q2 q3 q4
  generalize qu k2 0 (qu k1 0 (qu k0 s 0)) = c2 at *
  generalize jq k2 0 (qu k1 0 (qu k0 s 0)) = s2 at *
  generalize jq k1 0 (qu k0 s 0) = s1 at *
  generalize qu k1 0 (qu k0 s 0) = c1 at *
  generalize jq k0 s 0 = s0 at *
  generalize qu k0 s 0 = c0 at *
  have hv' : v = k3 % 9223372036854775808 + c2 := by omega
  refine ⟨⟨u0, u1, u2, by omega⟩, ?_⟩
  have eq : qJ k0 k1 k2 k3 / 57896044618658097711785492504343953926634992332820282019728792003956564819968 = k3 / 9223372036854775808 := by unfold qJ; omega
  have em : qJ k0 k1 k2 k3 % 57896044618658097711785492504343953926634992332820282019728792003956564819968 = qJ k0 k1 k2 (k3 % 9223372036854775808) := by unfold qJ; omega
  rw [eq, em, ← ho, ← hs, hv']
  unfold qJ
  omega
 clear d0 d1 d2 ob sb
 go_wp2_with fail
 refine (qdZ HF.o.1 (by
  rw [HF.o.2, Zw]
  have h1 := HK.o.h3; have h2 := yE HK.o; have h3 := HH.o
  omega) _).mono ?_
 rintro e W6 ⟨rfl, hB6⟩
 rw [HF.o.2, HM.o]
 have hz6 := hB6.size
 have RZ6 : Hid (qi W6 (w.heap.size + 2) #[.int .u64 0, .int .u64 0, .int .u64 0, .int .u64 0] 80) := (hB6.block _ (by omega)).trans RZ5.o
 have BL6 : Hid (zB w W6) := BL5.o.trans (hB6.mono (by omega))
 have hlt : qJ a0 a1 a2 a3 * qJ b0 b1 b2 b3 % P < P := Nat.mod_lt _ (by decide)
 obtain ⟨t0, t1, t2, t3, st, et⟩ := JY (qJ a0 a1 a2 a3 * qJ b0 b1 b2 b3 % P) (Nat.lt_trans hlt (by decide))
 have HT := qa (qbF st et)
 rw [HT.o]
 clear hB6 st hlt et RA5 RB5 RZ5 BL5
 go_wp2_with (first
   | (refine qB 80 (.tmp 4) (.tmp 115) (w.heap.size + 2) #[nv t0, nv t1, nv t2, nv t3] RZ6.o J9 rfl (YZ _ _ _ _) ?_))
 refine zh (v := w4 t0 t1 t2 t3) (results_cell_row Tryz.results93 _ _ (w.heap.size + 2) 80 #[nv t0, nv t1, nv t2, nv t3] (0, 0) _ (by rfl) (zd _ _ _ _ _ _ RZ6.o) jC rfl J9) rfl ⟨by rw [HT.o], ze BL6.o (by omega) _⟩
end
end Go.Proofs.YtccgfabojbjmjaaGreatDoor
