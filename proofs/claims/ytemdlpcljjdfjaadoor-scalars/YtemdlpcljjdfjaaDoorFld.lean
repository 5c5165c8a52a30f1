import Derived.Test.YtemdlpcljjdfjaaDoorWide
import Derived.Test.YtemdlpcljjdfjaaDoorPrime
/- Package field: reduce, addTimes. -/
namespace Go.Proofs.YtemdlpcljjdfjaaDoor
open Go.RowKit
theorem V_and63 (x : Nat) (h : x < 18446744073709551616) : bits .and .u64 (V x) 9223372036854775807 = V (x % 9223372036854775808) := by
  have e := bits_and_u64_nat x 9223372036854775807 h (by omega)
  have e2 : x &&& 9223372036854775807 = x % 9223372036854775808 := Nat.and_two_pow_sub_one_eq_mod x 63
  rw [e2] at e
  exact e
theorem V_shr63 (x : Nat) : V x / 9223372036854775808 = V (x / 9223372036854775808) := by unfold V; omega
theorem V_mul19 (x : Nat) (h : x ≤ 1000) : IntKind.u64.wrap (19 * V x) = V (19 * x) := by unfold V; rw [IntKind.wrap_u64]; omega
theorem under33 : Tryd.prog.underlying 42 = some (.array 4 40) := by kernel_rfl
theorem size33 : (Tryd.prog.info? 42).map (·.size) = some 4 := by kernel_rfl
theorem add64_19 (x : Nat) (w : World) :
    (callFunc 72 #[nv x, .int .u64 19, .int .u64 0]).run Tryd.prog w = .ok (.value (.tuple #[nv (sumW x 19 0), nv (carW x 19 0)])) w := add64_run x 19 0 (by decide) w
theorem add64_c (x c : Nat) (hc : c ≤ 1) (w : World) :
    (callFunc 72 #[nv x, .int .u64 0, nv c]).run Tryd.prog w = .ok (.value (.tuple #[nv (sumW x 0 c), nv (carW x 0 c)])) w := add64_run x 0 c hc w
theorem P_val : P = 57896044618658097711785492504343953926634992332820282019728792003956564819949 := rfl
section
attribute [local go_sem] V_add
set_option maxHeartbeats 1000000 in
theorem reduce_walk (n0 n1 n2 n3 r s t : Nat) (hn : Small4 n0 n1 n2 n3) (w : World)
    (hr : V ((n3 + carW n2 0 (carW n1 0 (carW n0 19 0))) % 18446744073709551616) / 9223372036854775808 = V r) (hr1 : r ≤ 1) (hs : s = 19 * r)
    (ht : bits .and .u64 (V ((n3 + carW n2 0 (carW n1 0 (carW n0 s 0))) % 18446744073709551616)) 9223372036854775807 = V t) :
    Calls Tryd.prog 73 #[nv n0, nv n1, nv n2, nv n3] w fun e w' => e = .returned (w4 (sumW n0 s 0) (sumW n1 0 (carW n0 s 0)) (sumW n2 0 (carW n1 0 (carW n0 s 0))) t) ∧ Below w.heap.size w w' := by
  have hm := V_mul19 r (by omega)
  rw [← hs] at hm
  obtain ⟨b0, b1, b2, b3⟩ := hn
  have l0 : carW n0 19 0 ≤ 1 := carW_le b0 (by decide) (by decide)
  have l1 : carW n1 0 (carW n0 19 0) ≤ 1 := carW_le b1 (by decide) l0
  have k0 : carW n0 s 0 ≤ 1 := carW_le b0 (by omega) (by decide)
  have k1 : carW n1 0 (carW n0 s 0) ≤ 1 := carW_le b1 (by decide) k0
  have h1 := add64_19 n0
  have h2 := add64_c n1 _ l0
  have h3 := add64_c n2 _ l1
  have h4 := add64_run0 n0 s
  have h5 := add64_c n1 _ k0
  have h6 := add64_c n2 _ k1
  clear l0 l1 k0 k1 b0 b1 b2 b3 hs hr1
  go_enter Tryd.func73, Tryd.ntmps73
  go_wp2
  go_returns
  exact ⟨rfl, by go_grown⟩
end
theorem reduce_num {n0 n1 n2 n3 r : Nat} (h : Small4 n0 n1 n2 n3) (hN : of4 n0 n1 n2 n3 < 2 * P) (hr : r = (n3 + carW n2 0 (carW n1 0 (carW n0 19 0))) % 18446744073709551616 / 9223372036854775808) :
    r ≤ 1 ∧ of4 (sumW n0 (19 * r) 0) (sumW n1 0 (carW n0 (19 * r) 0)) (sumW n2 0 (carW n1 0 (carW n0 (19 * r) 0))) ((n3 + carW n2 0 (carW n1 0 (carW n0 (19 * r) 0))) % 18446744073709551616 % 9223372036854775808) = of4 n0 n1 n2 n3 % P := by
  obtain ⟨h0, h1, h2, h3⟩ := h
  rw [P_val] at *
  have l0 : carW n0 19 0 ≤ 1 := carW_le h0 (by decide) (by decide)
  have l1 : carW n1 0 (carW n0 19 0) ≤ 1 := carW_le h1 (by decide) l0
  have e0 := @sumW_eq n0 19 0
  have e1 := @sumW_eq n1 0 (carW n0 19 0)
  have e2 := @sumW_eq n2 0 (carW n1 0 (carW n0 19 0))
  have t0 := sumW_lt n0 19 0
  have t1 := sumW_lt n1 0 (carW n0 19 0)
  have t2 := sumW_lt n2 0 (carW n1 0 (carW n0 19 0))
  generalize carW n2 0 (carW n1 0 (carW n0 19 0)) = c2 at *
  generalize sumW n2 0 (carW n1 0 (carW n0 19 0)) = s2 at *
  generalize sumW n1 0 (carW n0 19 0) = s1 at *
  generalize carW n1 0 (carW n0 19 0) = c1 at *
  generalize sumW n0 19 0 = s0 at *
  generalize carW n0 19 0 = c0 at *
  have hr1 : r ≤ 1 := by omega
  refine ⟨hr1, ?_⟩
  have hrN : r = (of4 n0 n1 n2 n3 + 19) / 57896044618658097711785492504343953926634992332820282019728792003956564819968 := by unfold of4 at *; omega
  have k0 : carW n0 (19 * r) 0 ≤ 1 := carW_le h0 (by omega) (by decide)
  have k1 : carW n1 0 (carW n0 (19 * r) 0) ≤ 1 := carW_le h1 (by decide) k0
  have f0 := @sumW_eq n0 (19 * r) 0
  have f1 := @sumW_eq n1 0 (carW n0 (19 * r) 0)
  have f2 := @sumW_eq n2 0 (carW n1 0 (carW n0 (19 * r) 0))
  have u0 := sumW_lt n0 (19 * r) 0
  have u1 := sumW_lt n1 0 (carW n0 (19 * r) 0)
  have u2 := sumW_lt n2 0 (carW n1 0 (carW n0 (19 * r) 0))
  clear e0 e1 e2 t0 t1 t2 l0 l1 hr
  generalize carW n2 0 (carW n1 0 (carW n0 (19 * r) 0)) = d2 at *
  generalize sumW n2 0 (carW n1 0 (carW n0 (19 * r) 0)) = v2 at *
  generalize sumW n1 0 (carW n0 (19 * r) 0) = v1 at *
  generalize carW n1 0 (carW n0 (19 * r) 0) = d1 at *
  generalize sumW n0 (19 * r) 0 = v0 at *
  generalize carW n0 (19 * r) 0 = d0 at *
  have : r = 0 ∨ r = 1 := by omega
  rcases this with rfl | rfl
  · have e : of4 n0 n1 n2 n3 % 57896044618658097711785492504343953926634992332820282019728792003956564819949 = of4 n0 n1 n2 n3 := Nat.mod_eq_of_lt (by omega)
    rw [e]
    unfold of4 at *
    omega
  · have e : of4 n0 n1 n2 n3 % 57896044618658097711785492504343953926634992332820282019728792003956564819949 = of4 n0 n1 n2 n3 - 57896044618658097711785492504343953926634992332820282019728792003956564819949 := by omega
    rw [e]
    unfold of4 at *
    omega
theorem reduce4_any {n0 n1 n2 n3 : Nat} (h : Small4 n0 n1 n2 n3) (hN : of4 n0 n1 n2 n3 < 2 * P) (w : World) :
    Calls Tryd.prog 73 #[nv n0, nv n1, nv n2, nv n3] w fun e w' => e = .returned (num4 (of4 n0 n1 n2 n3 % P)) ∧ Below w.heap.size w w' := by
  obtain ⟨hr1, hv⟩ := reduce_num h hN rfl
  have hs : Small4 (sumW n0 (19 * ((n3 + carW n2 0 (carW n1 0 (carW n0 19 0))) % 18446744073709551616 / 9223372036854775808)) 0) (sumW n1 0 (carW n0 (19 * ((n3 + carW n2 0 (carW n1 0 (carW n0 19 0))) % 18446744073709551616 / 9223372036854775808)) 0)) (sumW n2 0 (carW n1 0 (carW n0 (19 * ((n3 + carW n2 0 (carW n1 0 (carW n0 19 0))) % 18446744073709551616 / 9223372036854775808)) 0))) ((n3 + carW n2 0 (carW n1 0 (carW n0 (19 * ((n3 + carW n2 0 (carW n1 0 (carW n0 19 0))) % 18446744073709551616 / 9223372036854775808)) 0))) % 18446744073709551616 % 9223372036854775808) :=
    ⟨sumW_lt _ _ _, sumW_lt _ _ _, sumW_lt _ _ _, by omega⟩
  refine (reduce_walk n0 n1 n2 n3 _ _ _ h w (V_shr63 _) hr1 rfl (V_and63 _ (by omega))).mono fun e w' he => ⟨?_, he.2⟩
  rw [he.1, ← hv, num4_of hs]
end Go.Proofs.YtemdlpcljjdfjaaDoor
