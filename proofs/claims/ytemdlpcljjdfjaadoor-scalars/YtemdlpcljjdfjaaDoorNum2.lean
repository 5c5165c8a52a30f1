import Derived.Test.YtemdlpcljjdfjaaDoorNum
import Derived.Handy
/- MulAdd; sums and differences of four words. -/
namespace Go.Proofs.YtemdlpcljjdfjaaDoor
open Go.RowKit

theorem V_add (x y : Nat) : IntKind.u64.wrap (V x + V y) = V ((x + y) % 18446744073709551616) := by
  unfold V; rw [IntKind.wrap_u64]; omega
theorem mul_lt64 {a b : Nat} (ha : a < 18446744073709551616) (hb : b < 18446744073709551616) : a * b ≤ 340282366920938463426481119284349108225 :=
  Nat.mul_le_mul (show a ≤ 18446744073709551615 by omega) (show b ≤ 18446744073709551615 by omega)
theorem ret2 {x x' y y' : Nat} (h : x = x') (k : y = y') : Ending.returned (.tuple #[nv x, nv y]) = .returned (.tuple #[nv x', nv y']) := by rw [h, k]

/-- Four words as one number, the least one first. -/
def of4 (a b c d : Nat) : Nat := a + 18446744073709551616 * b + 340282366920938463463374607431768211456 * c + 6277101735386680763835789423207666416102355444464034512896 * d
abbrev w4 (a b c d : Nat) : Value := .agg #[nv a, nv b, nv c, nv d]
/-- A number below 2^256 as a value of four words. -/
def num4 (n : Nat) : Value := w4 (n % 18446744073709551616) (n / 18446744073709551616 % 18446744073709551616) (n / 340282366920938463463374607431768211456 % 18446744073709551616) (n / 6277101735386680763835789423207666416102355444464034512896 % 18446744073709551616)
structure Small4 (a b c d : Nat) : Prop where
  h0 : a < 18446744073709551616
  h1 : b < 18446744073709551616
  h2 : c < 18446744073709551616
  h3 : d < 18446744073709551616
theorem num4_of {a b c d : Nat} (h : Small4 a b c d) : num4 (of4 a b c d) = w4 a b c d := by
  obtain ⟨h0, h1, h2, h3⟩ := h
  unfold num4 of4
  rw [show (a + 18446744073709551616 * b + 340282366920938463463374607431768211456 * c + 6277101735386680763835789423207666416102355444464034512896 * d) % 18446744073709551616 = a by omega,
    show (a + 18446744073709551616 * b + 340282366920938463463374607431768211456 * c + 6277101735386680763835789423207666416102355444464034512896 * d) / 18446744073709551616 % 18446744073709551616 = b by omega,
    show (a + 18446744073709551616 * b + 340282366920938463463374607431768211456 * c + 6277101735386680763835789423207666416102355444464034512896 * d) / 340282366920938463463374607431768211456 % 18446744073709551616 = c by omega,
    show (a + 18446744073709551616 * b + 340282366920938463463374607431768211456 * c + 6277101735386680763835789423207666416102355444464034512896 * d) / 6277101735386680763835789423207666416102355444464034512896 % 18446744073709551616 = d by omega]
theorem words4 (n : Nat) (h : n < 115792089237316195423570985008687907853269984665640564039457584007913129639936) : ∃ a b c d, Small4 a b c d ∧ n = of4 a b c d := by
  refine ⟨n % 18446744073709551616, n / 18446744073709551616 % 18446744073709551616, n / 340282366920938463463374607431768211456 % 18446744073709551616, n / 6277101735386680763835789423207666416102355444464034512896, ⟨by omega, by omega, by omega, by omega⟩, ?_⟩
  unfold of4
  omega
theorem num4_eq {n a b c d : Nat} (h : Small4 a b c d) (e : n = of4 a b c d) : num4 n = w4 a b c d := by rw [e, num4_of h]

/-- 1, if it is below. -/
def ltN (a b : Nat) : Nat := if a < b then 1 else 0
theorem borW_le (x y b : Nat) : borW x y b ≤ 1 := by unfold borW; split <;> omega
theorem carW_le {x y b : Nat} (hx : x < 18446744073709551616) (hy : y < 18446744073709551616) (hb : b ≤ 1) : carW x y b ≤ 1 := by unfold carW; omega
theorem sumW_lt (x y c : Nat) : sumW x y c < 18446744073709551616 := by unfold sumW; omega
theorem difW_lt (x y c : Nat) : difW x y c < 18446744073709551616 := by unfold difW; omega
theorem sumW_eq {x y c : Nat} : x + y + c = sumW x y c + 18446744073709551616 * carW x y c := by unfold sumW carW; omega
theorem difW_eq {x y b : Nat} (hx : x < 18446744073709551616) (hy : y < 18446744073709551616) (hb : b ≤ 1) : x + 18446744073709551616 * borW x y b = difW x y b + y + b := by
  unfold difW borW; split <;> omega

section
attribute [local go_sem] V_add
set_option maxHeartbeats 1000000 in
theorem mulAdd_any (a b c d : Nat) (ha : a < 18446744073709551616) (hb : b < 18446744073709551616) (hc : c < 18446744073709551616) (hd : d < 18446744073709551616) (w : World) :
    Calls Tryd.prog 84 #[nv a, nv b, nv c, nv d] w fun e w' => e = .returned (.tuple #[nv ((a * b + c + d) % 18446744073709551616), nv ((a * b + c + d) / 18446744073709551616)]) ∧ w' = w := by
  have h1 := add64_run0 (a * b % 18446744073709551616) c
  have h2 := add64_run0 (sumW (a * b % 18446744073709551616) c 0) d
  have HE : Hid (sumW (sumW (a * b % 18446744073709551616) c 0) d 0 = (a * b + c + d) % 18446744073709551616 ∧ (a * b / 18446744073709551616 + carW (a * b % 18446744073709551616) c 0 + carW (sumW (a * b % 18446744073709551616) c 0) d 0) % 18446744073709551616 = (a * b + c + d) / 18446744073709551616) := by
    have := mul_lt64 ha hb
    unfold sumW carW
    generalize a * b = p at *
    constructor <;> omega
  have HA := hide ha
  have HB := hide hb
  clear ha hb hc hd
  go_enter Tryd.func84, Tryd.ntmps84
  go_wp2_with (first | (go_at_call 89; refine (mul64_any a b HA.out HB.out _).mono ?_; rintro e W ⟨rfl, rfl⟩))
  go_returns
  exact ⟨ret2 HE.out.1 HE.out.2, rfl⟩

set_option maxHeartbeats 1000000 in
theorem add_any (A B : Nat) (hA : A < 115792089237316195423570985008687907853269984665640564039457584007913129639936) (hB : B < 115792089237316195423570985008687907853269984665640564039457584007913129639936) (w : World) :
    Calls Tryd.prog 74 #[num4 A, num4 B] w fun e w' => e = .returned (.tuple #[num4 ((A + B) % 115792089237316195423570985008687907853269984665640564039457584007913129639936), nv ((A + B) / 115792089237316195423570985008687907853269984665640564039457584007913129639936)]) ∧ Below w.heap.size w w' := by
  obtain ⟨a0, a1, a2, a3, ha, rfl⟩ := words4 A hA
  obtain ⟨b0, b1, b2, b3, hb, rfl⟩ := words4 B hB
  rw [num4_of ha, num4_of hb]
  clear hA hB
  have l0 : carW a0 b0 0 ≤ 1 := carW_le ha.h0 hb.h0 (by decide)
  have l1 : carW a1 b1 (carW a0 b0 0) ≤ 1 := carW_le ha.h1 hb.h1 l0
  have l2 : carW a2 b2 (carW a1 b1 (carW a0 b0 0)) ≤ 1 := carW_le ha.h2 hb.h2 l1
  have h1 := add64_run0 a0 b0
  have h2 := add64_run a1 b1 _ l0
  have h3 := add64_run a2 b2 _ l1
  have h4 := add64_run a3 b3 _ l2
  have hs : Small4 (sumW a0 b0 0) (sumW a1 b1 (carW a0 b0 0)) (sumW a2 b2 (carW a1 b1 (carW a0 b0 0))) (sumW a3 b3 (carW a2 b2 (carW a1 b1 (carW a0 b0 0)))) := ⟨sumW_lt _ _ _, sumW_lt _ _ _, sumW_lt _ _ _, sumW_lt _ _ _⟩
  have HE : Hid ((of4 a0 a1 a2 a3 + of4 b0 b1 b2 b3) % 115792089237316195423570985008687907853269984665640564039457584007913129639936 = of4 (sumW a0 b0 0) (sumW a1 b1 (carW a0 b0 0)) (sumW a2 b2 (carW a1 b1 (carW a0 b0 0))) (sumW a3 b3 (carW a2 b2 (carW a1 b1 (carW a0 b0 0)))) ∧
      (of4 a0 a1 a2 a3 + of4 b0 b1 b2 b3) / 115792089237316195423570985008687907853269984665640564039457584007913129639936 = carW a3 b3 (carW a2 b2 (carW a1 b1 (carW a0 b0 0)))) := by
    obtain ⟨s0, s1, s2, s3⟩ := hs
    have e0 := @sumW_eq a0 b0 0
    have e1 := @sumW_eq a1 b1 (carW a0 b0 0)
    have e2 := @sumW_eq a2 b2 (carW a1 b1 (carW a0 b0 0))
    have e3 := @sumW_eq a3 b3 (carW a2 b2 (carW a1 b1 (carW a0 b0 0)))
    clear h1 h2 h3 h4
    generalize carW a3 b3 (carW a2 b2 (carW a1 b1 (carW a0 b0 0))) = c3 at *
    generalize sumW a3 b3 (carW a2 b2 (carW a1 b1 (carW a0 b0 0))) = t3 at *
    generalize sumW a2 b2 (carW a1 b1 (carW a0 b0 0)) = t2 at *
    generalize carW a2 b2 (carW a1 b1 (carW a0 b0 0)) = c2 at *
    generalize sumW a1 b1 (carW a0 b0 0) = t1 at *
    generalize carW a1 b1 (carW a0 b0 0) = c1 at *
    generalize sumW a0 b0 0 = t0 at *
    generalize carW a0 b0 0 = c0 at *
    unfold of4
    constructor <;> omega
  have HS := hide hs
  clear hs l0 l1 l2 ha hb
  go_enter Tryd.func74, Tryd.ntmps74
  go_wp2
  go_returns
  refine ⟨?_, by go_grown⟩
  rw [num4_eq HS.out HE.out.1, HE.out.2]

set_option maxHeartbeats 1000000 in
theorem sub_any (A B : Nat) (hA : A < 115792089237316195423570985008687907853269984665640564039457584007913129639936) (hB : B < 115792089237316195423570985008687907853269984665640564039457584007913129639936) (w : World) :
    Calls Tryd.prog 70 #[num4 A, num4 B] w fun e w' => e = .returned (.tuple #[num4 ((A + 115792089237316195423570985008687907853269984665640564039457584007913129639936 - B) % 115792089237316195423570985008687907853269984665640564039457584007913129639936), nv (ltN A B)]) ∧ Below w.heap.size w w' := by
  obtain ⟨a0, a1, a2, a3, ha, rfl⟩ := words4 A hA
  obtain ⟨b0, b1, b2, b3, hb, rfl⟩ := words4 B hB
  rw [num4_of ha, num4_of hb]
  clear hA hB
  have h1 := sub64_run0 a0 b0
  have h2 := sub64_run a1 b1 _ (borW_le a0 b0 0)
  have h3 := sub64_run a2 b2 _ (borW_le a1 b1 (borW a0 b0 0))
  have h4 := sub64_run a3 b3 _ (borW_le a2 b2 (borW a1 b1 (borW a0 b0 0)))
  have hs : Small4 (difW a0 b0 0) (difW a1 b1 (borW a0 b0 0)) (difW a2 b2 (borW a1 b1 (borW a0 b0 0))) (difW a3 b3 (borW a2 b2 (borW a1 b1 (borW a0 b0 0)))) := ⟨difW_lt _ _ _, difW_lt _ _ _, difW_lt _ _ _, difW_lt _ _ _⟩
  have HE : Hid ((of4 a0 a1 a2 a3 + 115792089237316195423570985008687907853269984665640564039457584007913129639936 - of4 b0 b1 b2 b3) % 115792089237316195423570985008687907853269984665640564039457584007913129639936 = of4 (difW a0 b0 0) (difW a1 b1 (borW a0 b0 0)) (difW a2 b2 (borW a1 b1 (borW a0 b0 0))) (difW a3 b3 (borW a2 b2 (borW a1 b1 (borW a0 b0 0)))) ∧
      ltN (of4 a0 a1 a2 a3) (of4 b0 b1 b2 b3) = borW a3 b3 (borW a2 b2 (borW a1 b1 (borW a0 b0 0)))) := by
    obtain ⟨s0, s1, s2, s3⟩ := hs
    have e0 := difW_eq ha.h0 hb.h0 (show 0 ≤ 1 by decide)
    have e1 := difW_eq ha.h1 hb.h1 (borW_le a0 b0 0)
    have e2 := difW_eq ha.h2 hb.h2 (borW_le a1 b1 (borW a0 b0 0))
    have e3 := difW_eq ha.h3 hb.h3 (borW_le a2 b2 (borW a1 b1 (borW a0 b0 0)))
    have k := borW_le a3 b3 (borW a2 b2 (borW a1 b1 (borW a0 b0 0)))
    obtain ⟨a0', a1', a2', a3'⟩ := ha
    obtain ⟨b0', b1', b2', b3'⟩ := hb
    clear h1 h2 h3 h4
    generalize borW a3 b3 (borW a2 b2 (borW a1 b1 (borW a0 b0 0))) = c3 at *
    generalize difW a3 b3 (borW a2 b2 (borW a1 b1 (borW a0 b0 0))) = t3 at *
    generalize difW a2 b2 (borW a1 b1 (borW a0 b0 0)) = t2 at *
    generalize borW a2 b2 (borW a1 b1 (borW a0 b0 0)) = c2 at *
    generalize difW a1 b1 (borW a0 b0 0) = t1 at *
    generalize borW a1 b1 (borW a0 b0 0) = c1 at *
    generalize difW a0 b0 0 = t0 at *
    generalize borW a0 b0 0 = c0 at *
    unfold ltN of4
    have : c3 = 0 ∨ c3 = 1 := by omega
    rcases this with rfl | rfl
    · constructor
      · omega
      · rw [if_neg (by omega)]
    · constructor
      · omega
      · rw [if_pos (by omega)]
  have HS := hide hs
  clear hs ha hb
  go_enter Tryd.func70, Tryd.ntmps70
  go_wp2
  go_returns
  refine ⟨?_, by go_grown⟩
  rw [num4_eq HS.out HE.out.1, HE.out.2]
end
theorem mulAdd_new (a b c d : Nat) (ha : a < 18446744073709551616) (hb : b < 18446744073709551616) (hc : c < 18446744073709551616) (hd : d < 18446744073709551616) (w : World) :
    Calls Tryd.prog 84 #[nv a, nv b, nv c, nv d] w fun e w' => ∃ lo hi, e = .returned (.tuple #[nv lo, nv hi]) ∧ (lo < 18446744073709551616 ∧ hi < 18446744073709551616 ∧ lo + 18446744073709551616 * hi = a * b + c + d) ∧ w' = w := by
  refine (mulAdd_any a b c d ha hb hc hd w).mono fun e w' h => ⟨_, _, h.1, ?_, h.2⟩
  have := mul_lt64 ha hb
  generalize a * b = p at *
  omega
theorem mulAdd_new0 (a b c : Nat) (ha : a < 18446744073709551616) (hb : b < 18446744073709551616) (hc : c < 18446744073709551616) (w : World) :
    Calls Tryd.prog 84 #[nv a, nv b, nv c, .int .u64 0] w fun e w' => ∃ lo hi, e = .returned (.tuple #[nv lo, nv hi]) ∧ (lo < 18446744073709551616 ∧ hi < 18446744073709551616 ∧ lo + 18446744073709551616 * hi = a * b + c) ∧ w' = w :=
  mulAdd_new a b c 0 ha hb hc (by decide) w
theorem mulAdd_new00 (a b : Nat) (ha : a < 18446744073709551616) (hb : b < 18446744073709551616) (w : World) :
    Calls Tryd.prog 84 #[nv a, nv b, .int .u64 0, .int .u64 0] w fun e w' => ∃ lo hi, e = .returned (.tuple #[nv lo, nv hi]) ∧ (lo < 18446744073709551616 ∧ hi < 18446744073709551616 ∧ lo + 18446744073709551616 * hi = a * b) ∧ w' = w :=
  mulAdd_new a b 0 0 ha hb (by decide) (by decide) w
theorem of4_lt {a b c d : Nat} (h : Small4 a b c d) : of4 a b c d < 115792089237316195423570985008687907853269984665640564039457584007913129639936 := by
  obtain ⟨h0, h1, h2, h3⟩ := h; unfold of4; omega
theorem sub_new {a0 a1 a2 a3 b0 b1 b2 b3 : Nat} (ha : Small4 a0 a1 a2 a3) (hb : Small4 b0 b1 b2 b3) (w : World) :
    Calls Tryd.prog 70 #[w4 a0 a1 a2 a3, w4 b0 b1 b2 b3] w fun e w' => ∃ r0 r1 r2 r3 k, e = .returned (.tuple #[w4 r0 r1 r2 r3, nv k]) ∧
      (Small4 r0 r1 r2 r3 ∧ k ≤ 1 ∧ of4 a0 a1 a2 a3 + 115792089237316195423570985008687907853269984665640564039457584007913129639936 * k = of4 r0 r1 r2 r3 + of4 b0 b1 b2 b3) ∧ Below w.heap.size w w' := by
  have la := of4_lt ha
  have lb := of4_lt hb
  have := sub_any _ _ la lb w
  rw [num4_of ha, num4_of hb] at this
  refine this.mono fun e w' h => ?_
  obtain ⟨r0, r1, r2, r3, hr, e'⟩ := words4 ((of4 a0 a1 a2 a3 + 115792089237316195423570985008687907853269984665640564039457584007913129639936 - of4 b0 b1 b2 b3) % 115792089237316195423570985008687907853269984665640564039457584007913129639936) (by omega)
  rw [num4_eq hr e'] at h
  refine ⟨r0, r1, r2, r3, _, h.1, ⟨hr, ?_, ?_⟩, h.2⟩
  · unfold ltN; split <;> omega
  · rw [← e']; unfold ltN; split <;> omega
theorem add_new {a0 a1 a2 a3 b0 b1 b2 b3 : Nat} (ha : Small4 a0 a1 a2 a3) (hb : Small4 b0 b1 b2 b3) (w : World) :
    Calls Tryd.prog 74 #[w4 a0 a1 a2 a3, w4 b0 b1 b2 b3] w fun e w' => ∃ r0 r1 r2 r3 k, e = .returned (.tuple #[w4 r0 r1 r2 r3, nv k]) ∧
      (Small4 r0 r1 r2 r3 ∧ k ≤ 1 ∧ of4 r0 r1 r2 r3 + 115792089237316195423570985008687907853269984665640564039457584007913129639936 * k = of4 a0 a1 a2 a3 + of4 b0 b1 b2 b3) ∧ Below w.heap.size w w' := by
  have la := of4_lt ha
  have lb := of4_lt hb
  have := add_any _ _ la lb w
  rw [num4_of ha, num4_of hb] at this
  refine this.mono fun e w' h => ?_
  obtain ⟨r0, r1, r2, r3, hr, e'⟩ := words4 ((of4 a0 a1 a2 a3 + of4 b0 b1 b2 b3) % 115792089237316195423570985008687907853269984665640564039457584007913129639936) (by omega)
  rw [num4_eq hr e'] at h
  exact ⟨r0, r1, r2, r3, _, h.1, ⟨hr, by omega, by omega⟩, h.2⟩
end Go.Proofs.YtemdlpcljjdfjaaDoor
