import Derived.Test.YtccgfabojbjmjaaGreatDoorLo01
import Derived.Test.YtccgfabojbjmjaaGreatDoorLo02
set_option maxRecDepth 100000
set_option maxHeartbeats 8000000
namespace Go.Proofs.YtccgfabojbjmjaaGreatDoor
open Go.RowKit
open Go.RowKit
theorem qgH (x : Nat) (h : x < 18446744073709551616) : bits .and .u64 (V x) 9223372036854775807 = V (x % 9223372036854775808) := by
 have e := bits_and_u64_nat x 9223372036854775807 h (by omega)
 have e2 : x &&& 9223372036854775807 = x % 9223372036854775808 := Nat.and_two_pow_sub_one_eq_mod x 63
 rw [e2] at e
 exact e
theorem qmw (x : Nat) : V x / 9223372036854775808 = V (x / 9223372036854775808) := by unfold V; omega
theorem qhe (x : Nat) (h : x ≤ 1000) : IntKind.u64.wrap (19 * V x) = V (19 * x) := by unfold V; rw [Zf]; omega
theorem jC : Tryz.prog.underlying 80 = some (.array 4 59) := by kernel_rfl
theorem J9 : (Tryz.prog.info? 80).map (·.size) = some 4 := by kernel_rfl
theorem qoJ (x : Nat) (w : World) :
  (callFunc 144 #[nv x, .int .u64 19, .int .u64 0]).run Tryz.prog w = .ok (.value (.tuple #[nv (jq x 19 0), nv (qu x 19 0)])) w := qaT x 19 0 (by decide) w
theorem qcq (x c : Nat) (hc : c ≤ 1) (w : World) :
  (callFunc 144 #[nv x, .int .u64 0, nv c]).run Tryz.prog w = .ok (.value (.tuple #[nv (jq x 0 c), nv (qu x 0 c)])) w := qaT x 0 c hc w
theorem Zw : P = 57896044618658097711785492504343953926634992332820282019728792003956564819949 := rfl
section
attribute [local go_sem] qiU
theorem qgS (n0 n1 n2 n3 r s t : Nat) (hn : Qd n0 n1 n2 n3) (w : World)
  (hr : V ((n3 + qu n2 0 (qu n1 0 (qu n0 19 0))) % 18446744073709551616) / 9223372036854775808 = V r) (hr1 : r ≤ 1) (hs : s = 19 * r)
  (ht : bits .and .u64 (V ((n3 + qu n2 0 (qu n1 0 (qu n0 s 0))) % 18446744073709551616)) 9223372036854775807 = V t) :
  zC 145 #[nv n0, nv n1, nv n2, nv n3] w (w4 (jq n0 s 0) (jq n1 0 (qu n0 s 0)) (jq n2 0 (qu n1 0 (qu n0 s 0))) t) := by
 have hm := qhe r (by omega)
 rw [← hs] at hm
 obtain ⟨b0, b1, b2, b3⟩ := hn
 have l0 : qu n0 19 0 ≤ 1 := yu b0 (by decide) (by decide)
 have l1 : qu n1 0 (qu n0 19 0) ≤ 1 := yu b1 (by decide) l0
 have k0 : qu n0 s 0 ≤ 1 := yu b0 (by omega) (by decide)
 have k1 : qu n1 0 (qu n0 s 0) ≤ 1 := yu b1 (by decide) k0
 have h1 := qoJ n0
 have h2 := qcq n1 _ l0
 have h3 := qcq n2 _ l1
 have h4 := qaQ n0 s
 have h5 := qcq n1 _ k0
 have h6 := qcq n2 _ k1
 clear l0 l1 k0 k1 b0 b1 b2 b3 hs hr1
 go_enter Tryz.func145, Tryz.ntmps145
 go_wp2
 go_returns
 exact ⟨rfl, by go_grown⟩
end
theorem qjU {n0 n1 n2 n3 r : Nat} (h : Qd n0 n1 n2 n3) (hN : qJ n0 n1 n2 n3 < 2 * P) (hr : r = (n3 + qu n2 0 (qu n1 0 (qu n0 19 0))) % 18446744073709551616 / 9223372036854775808) :
  r ≤ 1 ∧ qJ (jq n0 (19 * r) 0) (jq n1 0 (qu n0 (19 * r) 0)) (jq n2 0 (qu n1 0 (qu n0 (19 * r) 0))) ((n3 + qu n2 0 (qu n1 0 (qu n0 (19 * r) 0))) % 18446744073709551616 % 9223372036854775808) = qJ n0 n1 n2 n3 % P := by
 obtain ⟨h0, h1, h2, h3⟩ := h
 rw [Zw] at *
 have l0 : qu n0 19 0 ≤ 1 := yu h0 (by decide) (by decide)
 have l1 : qu n1 0 (qu n0 19 0) ≤ 1 := yu h1 (by decide) l0
 have e0 := @sumW_eq n0 19 0
 have e1 := @sumW_eq n1 0 (qu n0 19 0)
 have e2 := @sumW_eq n2 0 (qu n1 0 (qu n0 19 0))
 have t0 := JM n0 19 0
 have t1 := JM n1 0 (qu n0 19 0)
 have t2 := JM n2 0 (qu n1 0 (qu n0 19 0))
 generalize qu n2 0 (qu n1 0 (qu n0 19 0)) = c2 at *
 generalize jq n2 0 (qu n1 0 (qu n0 19 0)) = s2 at *
 generalize jq n1 0 (qu n0 19 0) = s1 at *
 generalize qu n1 0 (qu n0 19 0) = c1 at *
 generalize jq n0 19 0 = s0 at *
 generalize qu n0 19 0 = c0 at *
 have hr1 : r ≤ 1 := by omega
 refine ⟨hr1, ?_⟩
 have hrN : r = (qJ n0 n1 n2 n3 + 19) / 57896044618658097711785492504343953926634992332820282019728792003956564819968 := by unfold qJ at *; omega
 have k0 : qu n0 (19 * r) 0 ≤ 1 := yu h0 (by omega) (by decide)
 have k1 : qu n1 0 (qu n0 (19 * r) 0) ≤ 1 := yu h1 (by decide) k0
 have f0 := @sumW_eq n0 (19 * r) 0
 have f1 := @sumW_eq n1 0 (qu n0 (19 * r) 0)
 have f2 := @sumW_eq n2 0 (qu n1 0 (qu n0 (19 * r) 0))
 have u0 := JM n0 (19 * r) 0
 have u1 := JM n1 0 (qu n0 (19 * r) 0)
 have u2 := JM n2 0 (qu n1 0 (qu n0 (19 * r) 0))
 clear e0 e1 e2 t0 t1 t2 l0 l1 hr
 generalize qu n2 0 (qu n1 0 (qu n0 (19 * r) 0)) = d2 at *
 generalize jq n2 0 (qu n1 0 (qu n0 (19 * r) 0)) = v2 at *
 generalize jq n1 0 (qu n0 (19 * r) 0) = v1 at *
 generalize qu n1 0 (qu n0 (19 * r) 0) = d1 at *
 generalize jq n0 (19 * r) 0 = v0 at *
 generalize qu n0 (19 * r) 0 = d0 at *
 have : r = 0 ∨ r = 1 := by omega
 rcases this with rfl | rfl
 ·
  have e : qJ n0 n1 n2 n3 % 57896044618658097711785492504343953926634992332820282019728792003956564819949 = qJ n0 n1 n2 n3 := z6 (by omega)
  rw [e]
  unfold qJ at *
  omega
 ·
  have e : qJ n0 n1 n2 n3 % 57896044618658097711785492504343953926634992332820282019728792003956564819949 = qJ n0 n1 n2 n3 - 57896044618658097711785492504343953926634992332820282019728792003956564819949 := by omega
  rw [e]
  unfold qJ at *
  omega
theorem qdZ {n0 n1 n2 n3 : Nat} (h : Qd n0 n1 n2 n3) (hN : qJ n0 n1 n2 n3 < 2 * P) (w : World) :
  zC 145 #[nv n0, nv n1, nv n2, nv n3] w (QD (qJ n0 n1 n2 n3 % P)) := by
 obtain ⟨hr1, hv⟩ := qjU h hN rfl
 have hs : Qd (jq n0 (19 * ((n3 + qu n2 0 (qu n1 0 (qu n0 19 0))) % 18446744073709551616 / 9223372036854775808)) 0) (jq n1 0 (qu n0 (19 * ((n3 + qu n2 0 (qu n1 0 (qu n0 19 0))) % 18446744073709551616 / 9223372036854775808)) 0)) (jq n2 0 (qu n1 0 (qu n0 (19 * ((n3 + qu n2 0 (qu n1 0 (qu n0 19 0))) % 18446744073709551616 / 9223372036854775808)) 0))) ((n3 + qu n2 0 (qu n1 0 (qu n0 (19 * ((n3 + qu n2 0 (qu n1 0 (qu n0 19 0))) % 18446744073709551616 / 9223372036854775808)) 0))) % 18446744073709551616 % 9223372036854775808) :=
  ⟨JM _ _ _, JM _ _ _, JM _ _ _, by omega⟩
 refine (qgS n0 n1 n2 n3 _ _ _ h w (qmw _) hr1 rfl (qgH _ (by omega))).mono fun e w' he => ⟨?_, he.2⟩
 rw [he.1, ← hv, Jg hs]
open Go.RowKit
theorem qnD {fn : Func} {a b c d e : Tmp} (h : fn.results = #[.tmp a, .tmp b, .tmp c, .tmp d, .tmp e]) (tmps : Array Value) (P : Program) (w : World) :
  (results fn tmps).run P w = .ok (.tuple #[tmps.getD a undef, tmps.getD b undef, tmps.getD c undef, tmps.getD d undef, tmps.getD e undef]) w := by
 simp only [results, h]
 simp
theorem qay {n0 n1 n2 n3 m b0 b1 b2 b3 : Nat} (hn : Qd n0 n1 n2 n3) (hm : m < 18446744073709551616) (hb : Qd b0 b1 b2 b3) (w : World) :
  Calls Tryz.prog 143 #[nv n0, nv n1, nv n2, nv n3, nv m, w4 b0 b1 b2 b3] w fun e w' => ∃ r0 r1 r2 r3 r4, e = .returned (.tuple #[nv r0, nv r1, nv r2, nv r3, nv r4]) ∧
   (Qd r0 r1 r2 r3 ∧ r4 < 18446744073709551616 ∧ qJ r0 r1 r2 r3 + 115792089237316195423570985008687907853269984665640564039457584007913129639936 * r4 = qJ n0 n1 n2 n3 + m * qJ b0 b1 b2 b3) ∧ zB w w' := by
 have HN := qa hn
 have HM := qa hm
 have HB := qa hb
 clear hn hm hb
 go_enter Tryz.func143, Tryz.ntmps143
 go_wp2_with fail
 refine (qdV m b0 n0 HM.o HB.o.h0 HN.o.h0 _).mono ?_
 rintro e W ⟨r0, c0, rfl, h0, rfl⟩
 have H0 := qa h0
 clear h0
 go_wp2_with fail
 refine (qaM m b1 n1 c0 HM.o HB.o.h1 HN.o.h1 H0.o.2.1 _).mono ?_
 rintro e W ⟨r1, c1, rfl, h1, rfl⟩
 have H1 := qa h1
 clear h1
 go_wp2_with fail
 refine (qaM m b2 n2 c1 HM.o HB.o.h2 HN.o.h2 H1.o.2.1 _).mono ?_
 rintro e W ⟨r2, c2, rfl, h2, rfl⟩
 have H2 := qa h2
 clear h2
 go_wp2_with fail
 refine (qaM m b3 n3 c2 HM.o HB.o.h3 HN.o.h3 H2.o.2.1 _).mono ?_
 rintro e W ⟨r3, c3, rfl, h3, rfl⟩
 have H3 := qa h3
 clear h3
 go_wp2_with fail
 refine zh (qnD Tryz.results143 _ _ _) rfl ?_
 refine ⟨r0, r1, r2, r3, c3, rfl, ⟨⟨H0.o.1, H1.o.1, H2.o.1, H3.o.1⟩, H3.o.2.1, ?_⟩, by go_grown⟩
 have e0 := H0.o.2.2
 have e1 := H1.o.2.2
 have e2 := H2.o.2.2
 have e3 := H3.o.2.2
 unfold qJ
 rw [Nat.mul_add, Nat.mul_add, Nat.mul_add, Nat.mul_left_comm m, Nat.mul_left_comm m, Nat.mul_left_comm m]
 generalize m * b0 = p0 at *
 generalize m * b1 = p1 at *
 generalize m * b2 = p2 at *
 generalize m * b3 = p3 at *
 omega
theorem qoq (a b : Nat) (ha : a < P) (hb : b < P) (w : World) :
  zC 120 #[QD a, QD b] w (QD ((a + b) % P)) := by
 rw [Zw] at ha hb
 obtain ⟨a0, a1, a2, a3, sa, rfl⟩ := JY a (by omega)
 obtain ⟨b0, b1, b2, b3, sb, rfl⟩ := JY b (by omega)
 rw [Jg sa, Jg sb]
 have HA := qa sa
 have HB := qa sb
 have Ha := qa ha
 have Hb := qa hb
 clear sa sb ha hb
 go_enter Tryz.func120, Tryz.ntmps120
 go_wp2_with fail
 refine (qmR HA.o HB.o _).mono ?_
 rintro e W1 ⟨r0, r1, r2, r3, k, rfl, ⟨hs, hk, hE⟩, hB⟩
 have hsz := hB.size
 simp only [zB, World.size_alloc] at hB hsz
 have HB0 : Hid (zB w W1) := ((((zJ _ w).alloc (zm _) _).alloc (by simp) _).alloc (by simp; omega) _).trans (hB.mono (by omega))
 have HR : Hid (qi W1 (w.heap.size + 2) #[.int .u64 0, .int .u64 0, .int .u64 0, .int .u64 0] 80) := (hB.block _ (by omega)).trans (by
  have := Zd (w.alloc (.cells #[nv a0, nv a1, nv a2, nv a3] 80)) (.cells #[nv b0, nv b1, nv b2, nv b3] 80) (.cells #[.int .u64 0, .int .u64 0, .int .u64 0, .int .u64 0] 80)
  rw [World.size_alloc] at this; exact this)
 have HS := qa hs
 have HE := qa hE
 have HK := qa hk
 clear hs hE hk hB
 go_wp2_with fail
 refine (qdZ HS.o (by have h1 := HE.o; have h2 := Ha.o; have h3 := Hb.o; rw [Zw]; omega) _).mono ?_
 rintro e W2 ⟨rfl, hB2⟩
 have hsz2 := hB2.size
 simp only [World.size_alloc] at hB2 hsz2
 have HB2 : Hid (zB w W2) := (HB0.o.alloc HB0.o.size _).trans (hB2.mono (by omega))
 have HR2 : Hid (qi W2 (w.heap.size + 2) #[.int .u64 0, .int .u64 0, .int .u64 0, .int .u64 0] 80) := (hB2.block _ (by omega)).trans ((zb _ _ (by omega)).trans HR.o)
 have hv : qJ r0 r1 r2 r3 % P = (qJ a0 a1 a2 a3 + qJ b0 b1 b2 b3) % P := by
  have h1 := HE.o; have h2 := Ha.o; have h3 := Hb.o; have h4 := HK.o
  have h5 := yE HS.o
  congr 1
  omega
 rw [hv]
 have hlt : (qJ a0 a1 a2 a3 + qJ b0 b1 b2 b3) % P < P := Nat.mod_lt _ (by decide)
 obtain ⟨t0, t1, t2, t3, st, et⟩ := JY ((qJ a0 a1 a2 a3 + qJ b0 b1 b2 b3) % P) (Nat.lt_trans hlt (by decide))
 have HT := qa (qbF st et)
 rw [HT.o]
 clear hB2 hv st hlt et
 go_wp2_with (first
   | (refine qB 80 (.tmp 4) (.tmp 21) (w.heap.size + 2) #[nv t0, nv t1, nv t2, nv t3] HR2.o J9 rfl (YZ _ _ _ _) ?_))
 refine zh (v := w4 t0 t1 t2 t3) (results_cell_row Tryz.results120 _ _ (w.heap.size + 2) 80 #[nv t0, nv t1, nv t2, nv t3] (0, 0) _ (by rfl) (zd _ _ _ _ _ _ HR2.o) jC rfl J9) rfl ⟨by rw [HT.o], ze HB2.o (by omega) _⟩
theorem qjN {m b0 b1 b2 b3 : Nat} (hm : m < 18446744073709551616) (hb : Qd b0 b1 b2 b3) (w : World) :
  Calls Tryz.prog 143 #[.int .u64 0, .int .u64 0, .int .u64 0, .int .u64 0, nv m, w4 b0 b1 b2 b3] w fun e w' => ∃ r0 r1 r2 r3 r4, e = .returned (.tuple #[nv r0, nv r1, nv r2, nv r3, nv r4]) ∧
   (Qd r0 r1 r2 r3 ∧ r4 < 18446744073709551616 ∧ qJ r0 r1 r2 r3 + 115792089237316195423570985008687907853269984665640564039457584007913129639936 * r4 = m * qJ b0 b1 b2 b3) ∧ zB w w' := by
 refine (qay (n0 := 0) (n1 := 0) (n2 := 0) (n3 := 0) ⟨by decide, by decide, by decide, by decide⟩ hm hb w).mono ?_
 rintro e w' ⟨r0, r1, r2, r3, r4, he, ⟨h1, h2, h3⟩, h4⟩
 refine ⟨r0, r1, r2, r3, r4, he, ⟨h1, h2, ?_⟩, h4⟩
 rw [show qJ 0 0 0 0 = 0 from rfl, Zb] at h3
 exact h3
theorem qgQ {n0 n1 n2 n3 b0 b1 b2 b3 : Nat} (hn : Qd n0 n1 n2 n3) (hb : Qd b0 b1 b2 b3) (w : World) :
  Calls Tryz.prog 143 #[nv n0, nv n1, nv n2, nv n3, .int .u64 38, w4 b0 b1 b2 b3] w fun e w' => ∃ r0 r1 r2 r3 r4, e = .returned (.tuple #[nv r0, nv r1, nv r2, nv r3, nv r4]) ∧
   (Qd r0 r1 r2 r3 ∧ r4 < 18446744073709551616 ∧ qJ r0 r1 r2 r3 + 115792089237316195423570985008687907853269984665640564039457584007913129639936 * r4 = qJ n0 n1 n2 n3 + 38 * qJ b0 b1 b2 b3) ∧ zB w w' :=
 qay (m := 38) hn (by decide) hb w
section
attribute [local go_sem] qiU
theorem qku (a b : Nat) (ha : a < P) (hb : b < P) (w : World) :
  zC 119 #[QD a, QD b] w (QD ((a + (P - b)) % P)) := by
 rw [Zw] at ha hb
 obtain ⟨a0, a1, a2, a3, sa, rfl⟩ := JY a (by omega)
 obtain ⟨b0, b1, b2, b3, sb, rfl⟩ := JY b (by omega)
 rw [Jg sa, Jg sb]
 have HA := qa sa
 have HB := qa sb
 have Ha := qa ha
 have Hb := qa hb
 clear sa sb ha hb
 go_enter Tryz.func119, Tryz.ntmps119
 go_wp2_with fail
 refine (qg0 HA.o HB.o _).mono ?_
 rintro e W1 ⟨r0, r1, r2, r3, k, rfl, ⟨hs, hk, hE⟩, hB⟩
 have hsz := hB.size
 simp only [zB, World.size_alloc] at hB hsz
 have HB0 : Hid (zB w W1) := ((((zJ _ w).alloc (zm _) _).alloc (by simp) _).alloc (by simp; omega) _).trans (hB.mono (by omega))
 have HR : Hid (qi W1 (w.heap.size + 2) #[.int .u64 0, .int .u64 0, .int .u64 0, .int .u64 0] 80) := (hB.block _ (by omega)).trans (by
  have := Zd (w.alloc (.cells #[nv a0, nv a1, nv a2, nv a3] 80)) (.cells #[nv b0, nv b1, nv b2, nv b3] 80) (.cells #[.int .u64 0, .int .u64 0, .int .u64 0, .int .u64 0] 80)
  rw [World.size_alloc] at this; exact this)
 have HS := qa hs
 have HE := qa hE
 have HK := qa hk
 have hm := qhe k (by omega)
 clear hs hE hk hB
 obtain ⟨s, HSq⟩ := zx (19 * k)
 rw [← HSq.o] at hm
 go_wp2_with fail
 refine (qg0 (b1 := 0) (b2 := 0) (b3 := 0) HS.o ⟨by have := HSq.o; have := HK.o; omega, by decide, by decide, by decide⟩ _).mono ?_
 rintro e W2 ⟨t0, t1, t2, t3, k2, rfl, ⟨hs2, hk2, hE2⟩, hB2⟩
 have hsz2 := hB2.size
 simp only [zB, World.size_alloc] at hB2 hsz2
 have HB2 : Hid (zB w W2) := (HB0.o.alloc HB0.o.size _).trans (hB2.mono (by omega))
 have HR2 : Hid (qi W2 (w.heap.size + 2) #[.int .u64 0, .int .u64 0, .int .u64 0, .int .u64 0] 80) := (hB2.block _ (by omega)).trans ((zb _ _ (by omega)).trans HR.o)
 have HD2 : Hid (qi W2 W1.heap.size #[nv r0, nv r1, nv r2, nv r3] 60) := (hB2.block _ (by omega)).trans (za _ _)
 have hand := qgH t3 hs2.h3
 have HV : Hid (QD ((qJ a0 a1 a2 a3 + (P - qJ b0 b1 b2 b3)) % P) = w4 t0 t1 t2 (t3 % 9223372036854775808)) := by
  have h1 := HE.o; have h2 := Ha.o; have h3 := Hb.o; have h4 := HK.o; have h5 := HSq.o
  have h6 := yE HS.o
  have h7 := yE HA.o
  obtain ⟨q0, q1, q2, q3⟩ := hs2
  show _ = _
  apply qbF ⟨q0, q1, q2, by omega⟩
  rw [Zw]
  generalize qJ a0 a1 a2 a3 = a at *
  generalize qJ b0 b1 b2 b3 = b at *
  generalize qJ r0 r1 r2 r3 = r at *
  unfold qJ at *
  subst h5
  have : k = 0 ∨ k = 1 := by omega
  rcases this with rfl | rfl
  ·
   have e : (a + (57896044618658097711785492504343953926634992332820282019728792003956564819949 - b)) % 57896044618658097711785492504343953926634992332820282019728792003956564819949 = r := by omega
   rw [e]
   omega
  ·
   have e : (a + (57896044618658097711785492504343953926634992332820282019728792003956564819949 - b)) % 57896044618658097711785492504343953926634992332820282019728792003956564819949 = a + 57896044618658097711785492504343953926634992332820282019728792003956564819949 - b := by omega
   rw [e]
   omega
 obtain ⟨t4, HT4⟩ := zx (t3 % 9223372036854775808)
 rw [← HT4.o] at hand HV
 clear hB2 hs2 hE2 hk2
 have k3 : (W2.setRow W1.heap.size #[nv t0, nv t1, nv t2, nv t3]).cell? ⟨W1.heap.size, 3, none⟩ = some (nv t3) := by
  rw [zj _ W1.heap.size 3 _ _ _ (zd _ _ _ #[nv t0, nv t1, nv t2, nv t3] _ _ HD2.o)]; rfl
 have f3 := frozen_of_row _ W1.heap.size 3 _ _ (zd _ _ _ #[nv t0, nv t1, nv t2, nv t3] _ _ HD2.o)
 have HD3 : Hid (((W2.setRow W1.heap.size #[nv t0, nv t1, nv t2, nv t3]).setCell ⟨W1.heap.size, 3, none⟩ (nv t4)).heap[W1.heap.size]? = some (.cells #[nv t0, nv t1, nv t2, nv t4] 60)) :=
  Qg (cs := [nv t0, nv t1, nv t2, nv t3]) (zd _ _ _ #[nv t0, nv t1, nv t2, nv t3] _ _ HD2.o) 3 _
 have HR3 : Hid (((W2.setRow W1.heap.size #[nv t0, nv t1, nv t2, nv t3]).setCell ⟨W1.heap.size, 3, none⟩ (nv t4)).heap[w.heap.size + 2]? = some (.cells #[.int .u64 0, .int .u64 0, .int .u64 0, .int .u64 0] 80)) :=
  (Below.heap_setCell _ _ _ _ (by show w.heap.size + 2 ≠ W1.heap.size; omega)).trans ((zc _ _ _ _ (by omega)).trans HR2.o)
 go_wp2_with (first
   | (refine qB 60 (.tmp 5) (.tmp 19) W1.heap.size #[nv t0, nv t1, nv t2, nv t3] HD2.o Ju rfl (YZ _ _ _ _) ?_)
   | (refine zL 60 (.tmp 5) W1.heap.size #[nv t0, nv t1, nv t2, nv t4] HD3.o Jr Ju ?_)
   | (refine qB 80 (.tmp 4) (.tmp 25) (w.heap.size + 2) #[nv t0, nv t1, nv t2, nv t4] HR3.o J9 rfl (YZ _ _ _ _) ?_))
 refine zh (v := w4 t0 t1 t2 t4) (results_cell_row Tryz.results119 _ _ (w.heap.size + 2) 80 #[nv t0, nv t1, nv t2, nv t4] (0, 0) _ (by rfl) (zd _ _ _ _ _ _ HR3.o) jC rfl J9) rfl ⟨by rw [HV.o], ze ((ze HB2.o (by omega) _).setCell (by show _ ≤ _; simp; omega) _) (by omega) _⟩
end
end Go.Proofs.YtccgfabojbjmjaaGreatDoor
