import Derived.Test.YtccgfabojbjmjaaGreatDoorLo00
import Derived.Handy
import Derived.Deep.MidRow
import Derived.Laws.CopyOwn
set_option maxRecDepth 100000
set_option maxHeartbeats 8000000
namespace Go.Proofs.YtccgfabojbjmjaaGreatDoor
open Go.RowKit
open Go.RowKit
theorem qiU (x y : Nat) : IntKind.u64.wrap (V x + V y) = V ((x + y) % 18446744073709551616) := by
 unfold V; rw [Zf]; omega
theorem qiM {a b : Nat} (ha : a < 18446744073709551616) (hb : b < 18446744073709551616) : a * b ≤ 340282366920938463426481119284349108225 :=
 Nat.mul_le_mul (show a ≤ 18446744073709551615 by omega) (show b ≤ 18446744073709551615 by omega)
theorem qvI {x x' y y' : Nat} (h : x = x') (k : y = y') : Ending.returned (.tuple #[nv x, nv y]) = .returned (.tuple #[nv x', nv y']) := by rw [h, k]
def qJ (a b c d : Nat) : Nat := a + 18446744073709551616 * b + 340282366920938463463374607431768211456 * c + 6277101735386680763835789423207666416102355444464034512896 * d
abbrev w4 (a b c d : Nat) : Value := .agg #[nv a, nv b, nv c, nv d]
def QD (n : Nat) : Value := w4 (n % 18446744073709551616) (n / 18446744073709551616 % 18446744073709551616) (n / 340282366920938463463374607431768211456 % 18446744073709551616) (n / 6277101735386680763835789423207666416102355444464034512896 % 18446744073709551616)
structure Qd (a b c d : Nat) : Prop where
 h0 : a < 18446744073709551616
 h1 : b < 18446744073709551616
 h2 : c < 18446744073709551616
 h3 : d < 18446744073709551616
theorem Jg {a b c d : Nat} (h : Qd a b c d) : QD (qJ a b c d) = w4 a b c d := by
 obtain ⟨h0, h1, h2, h3⟩ := h
 unfold QD qJ
 rw [show (a + 18446744073709551616 * b + 340282366920938463463374607431768211456 * c + 6277101735386680763835789423207666416102355444464034512896 * d) % 18446744073709551616 = a by omega,
  show (a + 18446744073709551616 * b + 340282366920938463463374607431768211456 * c + 6277101735386680763835789423207666416102355444464034512896 * d) / 18446744073709551616 % 18446744073709551616 = b by omega,
  show (a + 18446744073709551616 * b + 340282366920938463463374607431768211456 * c + 6277101735386680763835789423207666416102355444464034512896 * d) / 340282366920938463463374607431768211456 % 18446744073709551616 = c by omega,
  show (a + 18446744073709551616 * b + 340282366920938463463374607431768211456 * c + 6277101735386680763835789423207666416102355444464034512896 * d) / 6277101735386680763835789423207666416102355444464034512896 % 18446744073709551616 = d by omega]
theorem JY (n : Nat) (h : n < 115792089237316195423570985008687907853269984665640564039457584007913129639936) : ∃ a b c d, Qd a b c d ∧ n = qJ a b c d := by
 refine ⟨n % 18446744073709551616, n / 18446744073709551616 % 18446744073709551616, n / 340282366920938463463374607431768211456 % 18446744073709551616, n / 6277101735386680763835789423207666416102355444464034512896, ⟨by omega, by omega, by omega, by omega⟩, ?_⟩
 unfold qJ
 omega
theorem qbF {n a b c d : Nat} (h : Qd a b c d) (e : n = qJ a b c d) : QD n = w4 a b c d := by rw [e, Jg h]
def Yf (a b : Nat) : Nat := if a < b then 1 else 0
theorem qbM (x y b : Nat) : ju x y b ≤ 1 := by unfold ju; split <;> omega
theorem yu {x y b : Nat} (hx : x < 18446744073709551616) (hy : y < 18446744073709551616) (hb : b ≤ 1) : qu x y b ≤ 1 := by unfold qu; omega
theorem JM (x y c : Nat) : jq x y c < 18446744073709551616 := by unfold jq; omega
theorem qe9 (x y c : Nat) : Jl x y c < 18446744073709551616 := by unfold Jl; omega
theorem sumW_eq {x y c : Nat} : x + y + c = jq x y c + 18446744073709551616 * qu x y c := by unfold jq qu; omega
theorem qfd {x y b : Nat} (hx : x < 18446744073709551616) (hy : y < 18446744073709551616) (hb : b ≤ 1) : x + 18446744073709551616 * ju x y b = Jl x y b + y + b := by
 unfold Jl ju; split <;> omega
section
attribute [local go_sem] qiU
theorem qiV (a b c d : Nat) (ha : a < 18446744073709551616) (hb : b < 18446744073709551616) (hc : c < 18446744073709551616) (hd : d < 18446744073709551616) (w : World) :
  Calls Tryz.prog 122 #[nv a, nv b, nv c, nv d] w fun e w' => e = .returned (.tuple #[nv ((a * b + c + d) % 18446744073709551616), nv ((a * b + c + d) / 18446744073709551616)]) ∧ w' = w := by
 have h1 := qaQ (a * b % 18446744073709551616) c
 have h2 := qaQ (jq (a * b % 18446744073709551616) c 0) d
 have HE : Hid (jq (jq (a * b % 18446744073709551616) c 0) d 0 = (a * b + c + d) % 18446744073709551616 ∧ (a * b / 18446744073709551616 + qu (a * b % 18446744073709551616) c 0 + qu (jq (a * b % 18446744073709551616) c 0) d 0) % 18446744073709551616 = (a * b + c + d) / 18446744073709551616) := by
  have := qiM ha hb
  unfold jq qu
  generalize a * b = p at *
  constructor <;> omega
 have HA := qa ha
 have HB := qa hb
 clear ha hb hc hd
 go_enter Tryz.func122, Tryz.ntmps122
 go_wp2_with (first | (go_at_call 151; refine (qms a b HA.o HB.o _).mono ?_; rintro e W ⟨rfl, rfl⟩))
 go_returns
 exact ⟨qvI HE.o.1 HE.o.2, rfl⟩
theorem qrI (A B : Nat) (hA : A < 115792089237316195423570985008687907853269984665640564039457584007913129639936) (hB : B < 115792089237316195423570985008687907853269984665640564039457584007913129639936) (w : World) :
  zC 124 #[QD A, QD B] w (.tuple #[QD ((A + B) % 115792089237316195423570985008687907853269984665640564039457584007913129639936), nv ((A + B) / 115792089237316195423570985008687907853269984665640564039457584007913129639936)]) := by
 obtain ⟨a0, a1, a2, a3, ha, rfl⟩ := JY A hA
 obtain ⟨b0, b1, b2, b3, hb, rfl⟩ := JY B hB
 rw [Jg ha, Jg hb]
 clear hA hB
 have l0 : qu a0 b0 0 ≤ 1 := yu ha.h0 hb.h0 (by decide)
 have l1 : qu a1 b1 (qu a0 b0 0) ≤ 1 := yu ha.h1 hb.h1 l0
 have l2 : qu a2 b2 (qu a1 b1 (qu a0 b0 0)) ≤ 1 := yu ha.h2 hb.h2 l1
 have h1 := qaQ a0 b0
 have h2 := qaT a1 b1 _ l0
 have h3 := qaT a2 b2 _ l1
 have h4 := qaT a3 b3 _ l2
 have hs : Qd (jq a0 b0 0) (jq a1 b1 (qu a0 b0 0)) (jq a2 b2 (qu a1 b1 (qu a0 b0 0))) (jq a3 b3 (qu a2 b2 (qu a1 b1 (qu a0 b0 0)))) := ⟨JM _ _ _, JM _ _ _, JM _ _ _, JM _ _ _⟩
 have HE : Hid ((qJ a0 a1 a2 a3 + qJ b0 b1 b2 b3) % 115792089237316195423570985008687907853269984665640564039457584007913129639936 = qJ (jq a0 b0 0) (jq a1 b1 (qu a0 b0 0)) (jq a2 b2 (qu a1 b1 (qu a0 b0 0))) (jq a3 b3 (qu a2 b2 (qu a1 b1 (qu a0 b0 0)))) ∧
   (qJ a0 a1 a2 a3 + qJ b0 b1 b2 b3) / 115792089237316195423570985008687907853269984665640564039457584007913129639936 = qu a3 b3 (qu a2 b2 (qu a1 b1 (qu a0 b0 0)))) := by
  obtain ⟨s0, s1, s2, s3⟩ := hs
  have e0 := @sumW_eq a0 b0 0
  have e1 := @sumW_eq a1 b1 (qu a0 b0 0)
  have e2 := @sumW_eq a2 b2 (qu a1 b1 (qu a0 b0 0))
  have e3 := @sumW_eq a3 b3 (qu a2 b2 (qu a1 b1 (qu a0 b0 0)))
  clear h1 h2 h3 h4
  generalize qu a3 b3 (qu a2 b2 (qu a1 b1 (qu a0 b0 0))) = c3 at *
  generalize jq a3 b3 (qu a2 b2 (qu a1 b1 (qu a0 b0 0))) = t3 at *
  generalize jq a2 b2 (qu a1 b1 (qu a0 b0 0)) = t2 at *
  generalize qu a2 b2 (qu a1 b1 (qu a0 b0 0)) = c2 at *
  generalize jq a1 b1 (qu a0 b0 0) = t1 at *
  generalize qu a1 b1 (qu a0 b0 0) = c1 at *
  generalize jq a0 b0 0 = t0 at *
  generalize qu a0 b0 0 = c0 at *
  unfold qJ
  constructor <;> omega
 have HS := qa hs
 clear hs l0 l1 l2 ha hb
 go_enter Tryz.func124, Tryz.ntmps124
 go_wp2
 go_returns
 refine ⟨?_, by go_grown⟩
 rw [qbF HS.o HE.o.1, HE.o.2]
theorem qmH (A B : Nat) (hA : A < 115792089237316195423570985008687907853269984665640564039457584007913129639936) (hB : B < 115792089237316195423570985008687907853269984665640564039457584007913129639936) (w : World) :
  zC 123 #[QD A, QD B] w (.tuple #[QD ((A + 115792089237316195423570985008687907853269984665640564039457584007913129639936 - B) % 115792089237316195423570985008687907853269984665640564039457584007913129639936), nv (Yf A B)]) := by
 obtain ⟨a0, a1, a2, a3, ha, rfl⟩ := JY A hA
 obtain ⟨b0, b1, b2, b3, hb, rfl⟩ := JY B hB
 rw [Jg ha, Jg hb]
 clear hA hB
 have h1 := qjT a0 b0
 have h2 := qbU a1 b1 _ (qbM a0 b0 0)
 have h3 := qbU a2 b2 _ (qbM a1 b1 (ju a0 b0 0))
 have h4 := qbU a3 b3 _ (qbM a2 b2 (ju a1 b1 (ju a0 b0 0)))
 have hs : Qd (Jl a0 b0 0) (Jl a1 b1 (ju a0 b0 0)) (Jl a2 b2 (ju a1 b1 (ju a0 b0 0))) (Jl a3 b3 (ju a2 b2 (ju a1 b1 (ju a0 b0 0)))) := ⟨qe9 _ _ _, qe9 _ _ _, qe9 _ _ _, qe9 _ _ _⟩
 have HE : Hid ((qJ a0 a1 a2 a3 + 115792089237316195423570985008687907853269984665640564039457584007913129639936 - qJ b0 b1 b2 b3) % 115792089237316195423570985008687907853269984665640564039457584007913129639936 = qJ (Jl a0 b0 0) (Jl a1 b1 (ju a0 b0 0)) (Jl a2 b2 (ju a1 b1 (ju a0 b0 0))) (Jl a3 b3 (ju a2 b2 (ju a1 b1 (ju a0 b0 0)))) ∧
   Yf (qJ a0 a1 a2 a3) (qJ b0 b1 b2 b3) = ju a3 b3 (ju a2 b2 (ju a1 b1 (ju a0 b0 0)))) := by
  obtain ⟨s0, s1, s2, s3⟩ := hs
  have e0 := qfd ha.h0 hb.h0 (show 0 ≤ 1 by decide)
  have e1 := qfd ha.h1 hb.h1 (qbM a0 b0 0)
  have e2 := qfd ha.h2 hb.h2 (qbM a1 b1 (ju a0 b0 0))
  have e3 := qfd ha.h3 hb.h3 (qbM a2 b2 (ju a1 b1 (ju a0 b0 0)))
  have k := qbM a3 b3 (ju a2 b2 (ju a1 b1 (ju a0 b0 0)))
  obtain ⟨a0', a1', a2', a3'⟩ := ha
  obtain ⟨b0', b1', b2', b3'⟩ := hb
  clear h1 h2 h3 h4
  generalize ju a3 b3 (ju a2 b2 (ju a1 b1 (ju a0 b0 0))) = c3 at *
  generalize Jl a3 b3 (ju a2 b2 (ju a1 b1 (ju a0 b0 0))) = t3 at *
  generalize Jl a2 b2 (ju a1 b1 (ju a0 b0 0)) = t2 at *
  generalize ju a2 b2 (ju a1 b1 (ju a0 b0 0)) = c2 at *
  generalize Jl a1 b1 (ju a0 b0 0) = t1 at *
  generalize ju a1 b1 (ju a0 b0 0) = c1 at *
  generalize Jl a0 b0 0 = t0 at *
  generalize ju a0 b0 0 = c0 at *
  unfold Yf qJ
  have : c3 = 0 ∨ c3 = 1 := by omega
  rcases this with rfl | rfl
  ·
   constructor
   · omega
   · rw [if_neg (by omega)]
  ·
   constructor
   · omega
   · rw [if_pos (by omega)]
 have HS := qa hs
 clear hs ha hb
 go_enter Tryz.func123, Tryz.ntmps123
 go_wp2
 go_returns
 refine ⟨?_, by go_grown⟩
 rw [qbF HS.o HE.o.1, HE.o.2]
end
theorem qaM (a b c d : Nat) (ha : a < 18446744073709551616) (hb : b < 18446744073709551616) (hc : c < 18446744073709551616) (hd : d < 18446744073709551616) (w : World) :
  Calls Tryz.prog 122 #[nv a, nv b, nv c, nv d] w fun e w' => ∃ lo hi, e = .returned (.tuple #[nv lo, nv hi]) ∧ (lo < 18446744073709551616 ∧ hi < 18446744073709551616 ∧ lo + 18446744073709551616 * hi = a * b + c + d) ∧ w' = w := by
 refine (qiV a b c d ha hb hc hd w).mono fun e w' h => ⟨_, _, h.1, ?_, h.2⟩
 have := qiM ha hb
 generalize a * b = p at *
 omega
theorem qdV (a b c : Nat) (ha : a < 18446744073709551616) (hb : b < 18446744073709551616) (hc : c < 18446744073709551616) (w : World) :
  Calls Tryz.prog 122 #[nv a, nv b, nv c, .int .u64 0] w fun e w' => ∃ lo hi, e = .returned (.tuple #[nv lo, nv hi]) ∧ (lo < 18446744073709551616 ∧ hi < 18446744073709551616 ∧ lo + 18446744073709551616 * hi = a * b + c) ∧ w' = w :=
 qaM a b c 0 ha hb hc (by decide) w
theorem qfS (a b : Nat) (ha : a < 18446744073709551616) (hb : b < 18446744073709551616) (w : World) :
  Calls Tryz.prog 122 #[nv a, nv b, .int .u64 0, .int .u64 0] w fun e w' => ∃ lo hi, e = .returned (.tuple #[nv lo, nv hi]) ∧ (lo < 18446744073709551616 ∧ hi < 18446744073709551616 ∧ lo + 18446744073709551616 * hi = a * b) ∧ w' = w :=
 qaM a b 0 0 ha hb (by decide) (by decide) w
theorem yE {a b c d : Nat} (h : Qd a b c d) : qJ a b c d < 115792089237316195423570985008687907853269984665640564039457584007913129639936 := by
 obtain ⟨h0, h1, h2, h3⟩ := h; unfold qJ; omega
theorem qg0 {a0 a1 a2 a3 b0 b1 b2 b3 : Nat} (ha : Qd a0 a1 a2 a3) (hb : Qd b0 b1 b2 b3) (w : World) :
  Calls Tryz.prog 123 #[w4 a0 a1 a2 a3, w4 b0 b1 b2 b3] w fun e w' => ∃ r0 r1 r2 r3 k, e = .returned (.tuple #[w4 r0 r1 r2 r3, nv k]) ∧
   (Qd r0 r1 r2 r3 ∧ k ≤ 1 ∧ qJ a0 a1 a2 a3 + 115792089237316195423570985008687907853269984665640564039457584007913129639936 * k = qJ r0 r1 r2 r3 + qJ b0 b1 b2 b3) ∧ zB w w' := by
 have la := yE ha
 have lb := yE hb
 have := qmH _ _ la lb w
 rw [Jg ha, Jg hb] at this
 refine this.mono fun e w' h => ?_
 obtain ⟨r0, r1, r2, r3, hr, e'⟩ := JY ((qJ a0 a1 a2 a3 + 115792089237316195423570985008687907853269984665640564039457584007913129639936 - qJ b0 b1 b2 b3) % 115792089237316195423570985008687907853269984665640564039457584007913129639936) (by omega)
 rw [qbF hr e'] at h
 refine ⟨r0, r1, r2, r3, _, h.1, ⟨hr, ?_, ?_⟩, h.2⟩
 · unfold Yf; split <;> omega
 · rw [← e']; unfold Yf; split <;> omega
theorem qmR {a0 a1 a2 a3 b0 b1 b2 b3 : Nat} (ha : Qd a0 a1 a2 a3) (hb : Qd b0 b1 b2 b3) (w : World) :
  Calls Tryz.prog 124 #[w4 a0 a1 a2 a3, w4 b0 b1 b2 b3] w fun e w' => ∃ r0 r1 r2 r3 k, e = .returned (.tuple #[w4 r0 r1 r2 r3, nv k]) ∧
   (Qd r0 r1 r2 r3 ∧ k ≤ 1 ∧ qJ r0 r1 r2 r3 + 115792089237316195423570985008687907853269984665640564039457584007913129639936 * k = qJ a0 a1 a2 a3 + qJ b0 b1 b2 b3) ∧ zB w w' := by
 have la := yE ha
 have lb := yE hb
 have := qrI _ _ la lb w
 rw [Jg ha, Jg hb] at this
 refine this.mono fun e w' h => ?_
 obtain ⟨r0, r1, r2, r3, hr, e'⟩ := JY ((qJ a0 a1 a2 a3 + qJ b0 b1 b2 b3) % 115792089237316195423570985008687907853269984665640564039457584007913129639936) (by omega)
 rw [qbF hr e'] at h
 exact ⟨r0, r1, r2, r3, _, h.1, ⟨hr, by omega, by omega⟩, h.2⟩
open Go.RowKit
def jf : Nat := 7237005577332262213973186563042994240857116359379907606001950938285454250989
structure QT (w : World) : Prop where
 row : ∃ t fr, w.heap[6]? = some (.cells #[nv 6346243789798364141, nv 1503914060200516822, nv 0, nv 1152921504606846976] t fr)
theorem qm {w : World} {g : Nat} {o : Obj} (h : w.heap[g]? = some o) : g < w.heap.size := by
 rcases Nat.lt_or_ge g w.heap.size with k | k
 · exact k
 · rw [Array.getElem?_eq_none k] at h; cases h
theorem Jr : Tryz.prog.underlying 60 = some (.array 4 59) := by kernel_rfl
theorem Ju : (Tryz.prog.info? 60).map (·.size) = some 4 := by kernel_rfl
theorem YZ (a b c d : Nat) : (#[nv a, nv b, nv c, nv d] : Array Value).all (·.oneCell') = true :=
 all_oneCell_toArray (cs := [nv a, nv b, nv c, nv d]) (by intro v hv; simp at hv; rcases hv with rfl | rfl | rfl | rfl <;> rfl)
theorem qvq : V 1 = 1 := rfl
theorem qs {B : Nat} {w w' : World} {g : Nat} {o : Obj} (h : w.heap[g]? = some o) (hb : Below B w w') (hg : g < B) : w'.heap[g]? = some o := (hb.block g hg).trans h
theorem qj8 (x : Nat) : IntKind.u64.wrap (V x * 256) = V (x * 256 % 18446744073709551616) := by unfold V; rw [Zf]; omega
theorem qpQ (x : Nat) : IntKind.u64.wrap (V x * 4096) = V (x * 4096 % 18446744073709551616) := by unfold V; rw [Zf]; omega
theorem qgJ (x : Nat) : V x / 72057594037927936 = V (x / 72057594037927936) := by unfold V; omega
theorem qqv (x : Nat) : V x / 4503599627370496 = V (x / 4503599627370496) := by unfold V; omega
theorem qsM (x : Nat) : V x / 16 = V (x / 16) := by unfold V; omega
theorem qun {x : Nat} (h : x < 18446744073709551616) : IntKind.u64.wrap (V x) = V x := by unfold V; rw [Zf]; omega
theorem qt0 (x y : Nat) (hx : 256 * x < 18446744073709551616) (hy : y < 256) : bits .or .u64 (V (256 * x)) (V y) = V (256 * x + y) := by
 unfold V
 rw [bits_or_u64_nat _ _ hx (by omega)]
 congr 1
 exact (Nat.two_pow_add_eq_or_of_lt (i := 8) hy x).symm
theorem qfe (a y : Nat) (hx : a < 18446744073709551616) (h8 : a % 256 = 0) (hy : y < 256) : bits .or .u64 (V a) (V y) = V (a + y) := by
 have e : a = 256 * (a / 256) := by omega
 rw [e]; exact qt0 _ _ (by omega) hy
theorem qfE {n0 n1 n2 n3 c : Nat} (h : Qd n0 n1 n2 n3) (_hL : qJ n0 n1 n2 n3 < jf) (_hc : c < 256) :
  qJ (n0 * 256 % 18446744073709551616 + c) (n1 * 256 % 18446744073709551616 + n0 / 72057594037927936) (n2 * 256 % 18446744073709551616 + n1 / 72057594037927936) (n3 * 4096 % 18446744073709551616 / 16 + n2 / 72057594037927936)
   + n3 / 4503599627370496 * 7237005577332262213973186563042994240829374041602535252466099000494570602496 = 256 * qJ n0 n1 n2 n3 + c := by
 obtain ⟨h0, h1, h2, h3⟩ := h
 unfold qJ jf at *
 omega
section
attribute [local go_sem] qiU
theorem qfo (n0 n1 n2 n3 c ov s0 s1 s2 s3 s4 r0 r1 r2 x0 x1 x2 x3 l0 l1 l2 l3 : Nat) (w : World)
  (T : TypeId) (fr : Nat × Nat) (hG : w.heap[6]? = some (.cells #[nv l0, nv l1, nv l2, nv l3] T fr))
  (hov : V n3 / 4503599627370496 = V ov) (hs0 : IntKind.u64.wrap (V n0 * 256) = V s0) (hs1 : IntKind.u64.wrap (V n1 * 256) = V s1) (hs2 : IntKind.u64.wrap (V n2 * 256) = V s2)
  (hs3 : IntKind.u64.wrap (V n3 * 4096) = V s3) (hs4 : V s3 / 16 = V s4) (hr0 : V n0 / 72057594037927936 = V r0) (hr1 : V n1 / 72057594037927936 = V r1) (hr2 : V n2 / 72057594037927936 = V r2)
  (hw : IntKind.u64.wrap (V c) = V c) (hx0 : bits .or .u64 (V s0) (V c) = V x0) (hx1 : bits .or .u64 (V s1) (V r0) = V x1) (hx2 : bits .or .u64 (V s2) (V r1) = V x2) (hx3 : bits .or .u64 (V s4) (V r2) = V x3)
  (hl : Qd l0 l1 l2 l3) (hx : Qd x0 x1 x2 x3) (ho : ov < 512) :
  Calls Tryz.prog 80 #[w4 n0 n1 n2 n3, .int .u8 (V c)] w fun e w' => ∃ t0 t1 t2 t3, e = .returned (w4 t0 t1 t2 t3) ∧ Qd t0 t1 t2 t3 ∧
   (qJ t0 t1 t2 t3 + ov * (l0 + 18446744073709551616 * l1) = qJ x0 x1 x2 x3 ∨
    (qJ x0 x1 x2 x3 < ov * (l0 + 18446744073709551616 * l1) ∧ ∃ m, qJ t0 t1 t2 t3 + ov * (l0 + 18446744073709551616 * l1) + 115792089237316195423570985008687907853269984665640564039457584007913129639936 * m = qJ x0 x1 x2 x3 + qJ l0 l1 l2 l3 + 115792089237316195423570985008687907853269984665640564039457584007913129639936)) ∧ zB w w' := by
 have hb2 : 6 < w.heap.size := qm hG
 have g0 : w.cell? ⟨6, 0, none⟩ = some (nv l0) := by rw [zj w 6 0 _ T fr hG]; rfl
 have g1 : w.cell? ⟨6, 1, none⟩ = some (nv l1) := by rw [zj w 6 1 _ T fr hG]; rfl
 have HL := qa hl
 have HX := qa hx
 have HO := qa ho
 have HG := qa hG
 clear hl hx ho hG
 go_enter Tryz.func80, Tryz.ntmps80
 go_wp2_with fail
 refine (qfS ov l0 (by have := HO.o; omega) HL.o.h0 _).mono ?_
 rintro e W ⟨p0, q0, rfl, hP, rfl⟩
 have HP := qa hP
 clear hP
 go_wp2_with fail
 refine (qdV ov l1 q0 (by have := HO.o; omega) HL.o.h1 HP.o.2.1 _).mono ?_
 rintro e W ⟨p1, q1, rfl, hQ, rfl⟩
 have HQ := qa hQ
 clear hQ
 go_wp2_with fail
 refine (qg0 (b3 := 0) HX.o ⟨HP.o.1, HQ.o.1, HQ.o.2.1, by decide⟩ _).mono ?_
 rintro e W1 ⟨t0, t1, t2, t3, k, rfl, ⟨hT, hk, hE⟩, hB⟩
 have HT := qa hT
 have HE := qa hE
 have hsz := hB.size
 simp only [zB, World.size_alloc] at hB hsz
 have hB0 : zB w W1 := (((zJ _ w).alloc (zm _) _).alloc (by simp) _).trans (hB.mono (by omega))
 have hG1 : W1.heap[6]? = some (.cells #[nv l0, nv l1, nv l2, nv l3] T fr) := qs HG.o hB0 (by omega)
 have hR1 : W1.heap[w.heap.size + 1]? = some (.cells #[.int .u64 0, .int .u64 0, .int .u64 0, .int .u64 0] 60) := qs (Zd _ _ _) hB (by omega)
 have HB0 := qa hB0
 have HG1 := qa hG1
 have HR1 := qa hR1
 clear hT hE hB hB0 hG1 hR1
 have k0 : W1.cell? ⟨6, 0, none⟩ = some (nv l0) := by rw [zj W1 6 0 _ T fr HG1.o]; rfl
 have k1 : W1.cell? ⟨6, 1, none⟩ = some (nv l1) := by rw [zj W1 6 1 _ T fr HG1.o]; rfl
 have k2 : W1.cell? ⟨6, 2, none⟩ = some (nv l2) := by rw [zj W1 6 2 _ T fr HG1.o]; rfl
 have k3 : W1.cell? ⟨6, 3, none⟩ = some (nv l3) := by rw [zj W1 6 3 _ T fr HG1.o]; rfl
 have hb5 : 6 < W1.heap.size := by omega
 have hk' : k = 0 ∨ k = 1 := by omega
 clear hk
 have hv0 := qsZ
 have hv1 := qvq
 rcases hk' with rfl | rfl
 ·
  go_wp2_with (first
   | (refine qB 60 (.tmp 4) (.tmp 74) (w.heap.size + 1) #[nv t0, nv t1, nv t2, nv t3] ((zb _ _ (by omega)).trans HR1.o) Ju rfl (YZ _ _ _ _) ?_))
  refine zh (v := w4 t0 t1 t2 t3) (results_cell_row Tryz.results80 _ _ (w.heap.size + 1) 60 #[nv t0, nv t1, nv t2, nv t3] (0, 0) _ (by rfl) (zd _ _ _ _ _ _ ((zb _ _ (by omega)).trans HR1.o)) Jr rfl Ju) rfl ?_
  refine ⟨t0, t1, t2, t3, rfl, HT.o, Or.inl ?_, ze (HB0.o.alloc HB0.o.size _) (by omega) _⟩
  have e1 := HP.o.2.2
  have e2 := HQ.o.2.2
  have e3 := HE.o
  rw [show qJ x0 x1 x2 x3 = qJ t0 t1 t2 t3 + qJ p0 p1 q1 0 by omega, Nat.mul_add, Nat.mul_left_comm, ← e1]
  unfold qJ at *
  have e4 : 18446744073709551616 * (ov * l1) = 18446744073709551616 * p1 + 340282366920938463463374607431768211456 * q1 - 18446744073709551616 * q0 := by omega
  omega
 ·
  go_wp2_with fail
  refine (qmR HT.o HL.o _).mono ?_
  rintro e W2 ⟨u0, u1, u2, u3, k, rfl, ⟨hT2, hk, hE2⟩, hB⟩
  have hsz2 := hB.size
  simp only [zB, World.size_alloc] at hB hsz2
  have hB2 : zB w W2 := (HB0.o.alloc HB0.o.size _).trans (hB.mono (by omega))
  have HU := qa hT2
  have HE2 := qa hE2
  have HB2 := qa hB2
  have HR2 : Hid (qi W2 (w.heap.size + 1) #[.int .u64 0, .int .u64 0, .int .u64 0, .int .u64 0] 60) := qs ((zb _ _ (by omega)).trans HR1.o) hB (by omega)
  have HT2 : Hid (qi W2 W1.heap.size #[nv t0, nv t1, nv t2, nv t3] 60) := qs (za _ _) hB (by omega)
  clear hT2 hE2 hB hB2
  go_wp2_with (first
   | (refine qB 60 (.tmp 9) (.tmp 72) W1.heap.size #[nv u0, nv u1, nv u2, nv u3] HT2.o Ju rfl (YZ _ _ _ _) ?_)
   | (refine zg (by rfl) 60 (.tmp 9) (by rfl) W1.heap.size (by rfl) 60 #[nv u0, nv u1, nv u2, nv u3] (0, 0) _ (zd _ _ _ _ _ _ HT2.o) Jr rfl Ju ?_)
   | (refine qB 60 (.tmp 4) (.tmp 74) (w.heap.size + 1) #[nv u0, nv u1, nv u2, nv u3] ((zc _ _ _ _ (by omega)).trans HR2.o) Ju rfl (YZ _ _ _ _) ?_))
  refine zh (v := w4 u0 u1 u2 u3) (results_cell_row Tryz.results80 _ _ (w.heap.size + 1) 60 #[nv u0, nv u1, nv u2, nv u3] (0, 0) _ (by rfl) (zd _ _ _ _ _ _ ((zc _ _ _ _ (by omega)).trans HR2.o)) Jr rfl Ju) rfl ?_
  refine ⟨u0, u1, u2, u3, rfl, HU.o, Or.inr ?_, ze (ze HB2.o (by omega) _) (by omega) _⟩
  have e1 := HP.o.2.2
  have e2 := HQ.o.2.2
  have e3 := HE.o
  have e5 := HE2.o
  have b1 := yE HT.o
  have b2 := yE HX.o
  have e6 : ov * (l0 + 18446744073709551616 * l1) = qJ p0 p1 q1 0 := by
   rw [Nat.mul_add, Nat.mul_left_comm, ← e1]
   unfold qJ
   have e4 : 18446744073709551616 * (ov * l1) = 18446744073709551616 * p1 + 340282366920938463463374607431768211456 * q1 - 18446744073709551616 * q0 := by omega
   omega
  rw [e6]
  generalize qJ t0 t1 t2 t3 = t at *
  generalize qJ u0 u1 u2 u3 = u at *
  generalize qJ x0 x1 x2 x3 = x at *
  generalize qJ p0 p1 q1 0 = p at *
  generalize qJ l0 l1 l2 l3 = l at *
  exact ⟨by omega, k, by omega⟩
end
theorem qfO (n c : Nat) (hn : n < jf) (hc : c < 256) (w : World) (hO : QT w) :
  zC 80 #[QD n, .int .u8 (V c)] w (QD ((256 * n + c) % jf)) := by
 obtain ⟨n0, n1, n2, n3, hs, rfl⟩ := JY n (by unfold jf at hn; omega)
 rw [Jg hs]
 obtain ⟨T, fr, hG⟩ := hO.row
 have hlt : n3 / 4503599627370496 < 512 := by
  obtain ⟨h0, h1, h2, h3⟩ := hs
  unfold qJ jf at hn
  omega
 have hnum := qfE hs hn hc
 have hx : Qd (n0 * 256 % 18446744073709551616 + c) (n1 * 256 % 18446744073709551616 + n0 / 72057594037927936) (n2 * 256 % 18446744073709551616 + n1 / 72057594037927936) (n3 * 4096 % 18446744073709551616 / 16 + n2 / 72057594037927936) := by
  obtain ⟨h0, h1, h2, h3⟩ := hs
  exact ⟨by omega, by omega, by omega, by omega⟩
 refine (qfo n0 n1 n2 n3 c _ _ _ _ _ _ _ _ _ _ _ _ _ _ _ _ _ w T fr hG (qqv n3) (qj8 n0) (qj8 n1) (qj8 n2) (qpQ n3) (qsM _) (qgJ n0) (qgJ n1) (qgJ n2) (qun (by omega))
  (qfe _ _ (by omega) (by omega) hc) (qfe _ _ (by omega) (by omega) (by have := hs.h0; omega)) (qfe _ _ (by omega) (by omega) (by have := hs.h1; omega)) (qfe _ _ (by omega) (by omega) (by have := hs.h2; omega))
  ⟨by decide, by decide, by decide, by decide⟩ hx hlt).mono ?_
 rintro e w' ⟨t0, t1, t2, t3, rfl, ht, hor, hb⟩
 refine ⟨?_, hb⟩
 have hX : qJ (n0 * 256 % 18446744073709551616 + c) (n1 * 256 % 18446744073709551616 + n0 / 72057594037927936) (n2 * 256 % 18446744073709551616 + n1 / 72057594037927936) (n3 * 4096 % 18446744073709551616 / 16 + n2 / 72057594037927936) < 7237005577332262213973186563042994240829374041602535252466099000494570602496 := by
  obtain ⟨h0, h1, h2, h3⟩ := hs
  unfold qJ; omega
 have e1 : qJ t0 t1 t2 t3 = (256 * qJ n0 n1 n2 n3 + c) % jf := by
  have el : qJ 6346243789798364141 1503914060200516822 0 1152921504606846976 = jf := by decide +kernel
  have lt := yE ht
  rw [el] at hor
  generalize qJ (n0 * 256 % 18446744073709551616 + c) (n1 * 256 % 18446744073709551616 + n0 / 72057594037927936) (n2 * 256 % 18446744073709551616 + n1 / 72057594037927936) (n3 * 4096 % 18446744073709551616 / 16 + n2 / 72057594037927936) = x at *
  generalize n3 / 4503599627370496 = ov at *
  generalize qJ t0 t1 t2 t3 = t at *
  rw [← hnum]
  unfold jf at *
  rcases hor with h | ⟨h1, m, h2⟩
  · rw [show x + ov * 7237005577332262213973186563042994240829374041602535252466099000494570602496 = t + ov * 7237005577332262213973186563042994240857116359379907606001950938285454250989 by omega, Nat.add_mul_mod_self_right, z6 (by omega)]
  ·
   obtain ⟨v, rfl⟩ : ∃ v, ov = v + 1 := ⟨ov - 1, by omega⟩
   rw [show x + (v + 1) * 7237005577332262213973186563042994240829374041602535252466099000494570602496 = t + v * 7237005577332262213973186563042994240857116359379907606001950938285454250989 by omega, Nat.add_mul_mod_self_right, z6 (by omega)]
 rw [← e1, Jg ht]
end Go.Proofs.YtccgfabojbjmjaaGreatDoor
