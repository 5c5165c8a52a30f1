import Derived.Test.YtccgfabojbjmjaaGreatDoorPx00
import Derived.Deep.MidRow
import Derived.Laws.CopyOwn
import Derived.Test.YtccgfabojbjmjaaGreatDoorPx01
namespace Go.Proofs.YtccgfabojbjmjaaGreatDoor
open Go.RowKit
def Lord : Nat := 7237005577332262213973186563042994240857116359379907606001950938285454250989
structure OrdAt (w : World) : Prop where
 row : ∃ t fr, w.heap[6]? = some (.cells #[nv 6346243789798364141, nv 1503914060200516822, nv 0, nv 1152921504606846976] t fr)
theorem lt_of_row {w : World} {g : Nat} {o : Obj} (h : w.heap[g]? = some o) : g < w.heap.size := by
 rcases Nat.lt_or_ge g w.heap.size with k | k
 · exact k
 · rw [Array.getElem?_eq_none k] at h; cases h
theorem under4 : Tryz.prog.underlying 60 = some (.array 4 59) := by kernel_rfl
theorem size4 : (Tryz.prog.info? 60).map (·.size) = some 4 := by kernel_rfl
theorem w4_cell (a b c d : Nat) : (#[nv a, nv b, nv c, nv d] : Array Value).all (·.oneCell') = true :=
 all_oneCell_toArray (cs := [nv a, nv b, nv c, nv d]) (by intro v hv; simp at hv; rcases hv with rfl | rfl | rfl | rfl <;> rfl)
theorem V_one : V 1 = 1 := rfl
theorem row_below {B : Nat} {w w' : World} {g : Nat} {o : Obj} (h : w.heap[g]? = some o) (hb : Below B w w') (hg : g < B) : w'.heap[g]? = some o := (hb.block g hg).trans h
theorem V_shl8 (x : Nat) : IntKind.u64.wrap (V x * 256) = V (x * 256 % 18446744073709551616) := by unfold V; rw [IntKind.wrap_u64]; omega
theorem V_shl12 (x : Nat) : IntKind.u64.wrap (V x * 4096) = V (x * 4096 % 18446744073709551616) := by unfold V; rw [IntKind.wrap_u64]; omega
theorem V_shr56 (x : Nat) : V x / 72057594037927936 = V (x / 72057594037927936) := by unfold V; omega
theorem V_shr52 (x : Nat) : V x / 4503599627370496 = V (x / 4503599627370496) := by unfold V; omega
theorem V_shr4 (x : Nat) : V x / 16 = V (x / 16) := by unfold V; omega
theorem V_u64 {x : Nat} (h : x < 18446744073709551616) : IntKind.u64.wrap (V x) = V x := by unfold V; rw [IntKind.wrap_u64]; omega
theorem or_low (x y : Nat) (hx : 256 * x < 18446744073709551616) (hy : y < 256) : bits .or .u64 (V (256 * x)) (V y) = V (256 * x + y) := by
 unfold V
 rw [bits_or_u64_nat _ _ hx (by omega)]
 congr 1
 exact (Nat.two_pow_add_eq_or_of_lt (i := 8) hy x).symm
theorem or_low' (a y : Nat) (hx : a < 18446744073709551616) (h8 : a % 256 = 0) (hy : y < 256) : bits .or .u64 (V a) (V y) = V (a + y) := by
 have e : a = 256 * (a / 256) := by omega
 rw [e]; exact or_low _ _ (by omega) hy
theorem withByte_num {n0 n1 n2 n3 c : Nat} (h : Small4 n0 n1 n2 n3) (_hL : of4 n0 n1 n2 n3 < Lord) (_hc : c < 256) :
  of4 (n0 * 256 % 18446744073709551616 + c) (n1 * 256 % 18446744073709551616 + n0 / 72057594037927936) (n2 * 256 % 18446744073709551616 + n1 / 72057594037927936) (n3 * 4096 % 18446744073709551616 / 16 + n2 / 72057594037927936)
   + n3 / 4503599627370496 * 7237005577332262213973186563042994240829374041602535252466099000494570602496 = 256 * of4 n0 n1 n2 n3 + c := by
 obtain ⟨h0, h1, h2, h3⟩ := h
 unfold of4 Lord at *
 omega
section
attribute [local go_sem] V_add
set_option maxHeartbeats 2000000 in
theorem withByte_walk (n0 n1 n2 n3 c ov s0 s1 s2 s3 s4 r0 r1 r2 x0 x1 x2 x3 l0 l1 l2 l3 : Nat) (w : World)
  (T : TypeId) (fr : Nat × Nat) (hG : w.heap[6]? = some (.cells #[nv l0, nv l1, nv l2, nv l3] T fr))
  (hov : V n3 / 4503599627370496 = V ov) (hs0 : IntKind.u64.wrap (V n0 * 256) = V s0) (hs1 : IntKind.u64.wrap (V n1 * 256) = V s1) (hs2 : IntKind.u64.wrap (V n2 * 256) = V s2)
  (hs3 : IntKind.u64.wrap (V n3 * 4096) = V s3) (hs4 : V s3 / 16 = V s4) (hr0 : V n0 / 72057594037927936 = V r0) (hr1 : V n1 / 72057594037927936 = V r1) (hr2 : V n2 / 72057594037927936 = V r2)
  (hw : IntKind.u64.wrap (V c) = V c) (hx0 : bits .or .u64 (V s0) (V c) = V x0) (hx1 : bits .or .u64 (V s1) (V r0) = V x1) (hx2 : bits .or .u64 (V s2) (V r1) = V x2) (hx3 : bits .or .u64 (V s4) (V r2) = V x3)
  (hl : Small4 l0 l1 l2 l3) (hx : Small4 x0 x1 x2 x3) (ho : ov < 512) :
  Calls Tryz.prog 80 #[w4 n0 n1 n2 n3, .int .u8 (V c)] w fun e w' => ∃ t0 t1 t2 t3, e = .returned (w4 t0 t1 t2 t3) ∧ Small4 t0 t1 t2 t3 ∧
   (of4 t0 t1 t2 t3 + ov * (l0 + 18446744073709551616 * l1) = of4 x0 x1 x2 x3 ∨
    (of4 x0 x1 x2 x3 < ov * (l0 + 18446744073709551616 * l1) ∧ ∃ m, of4 t0 t1 t2 t3 + ov * (l0 + 18446744073709551616 * l1) + 115792089237316195423570985008687907853269984665640564039457584007913129639936 * m = of4 x0 x1 x2 x3 + of4 l0 l1 l2 l3 + 115792089237316195423570985008687907853269984665640564039457584007913129639936)) ∧ Below w.heap.size w w' := by
 have hb2 : 6 < w.heap.size := lt_of_row hG
 have g0 : w.cell? ⟨6, 0, none⟩ = some (nv l0) := by rw [cell_of_row w 6 0 _ T fr hG]; rfl
 have g1 : w.cell? ⟨6, 1, none⟩ = some (nv l1) := by rw [cell_of_row w 6 1 _ T fr hG]; rfl
 have HL := hide hl
 have HX := hide hx
 have HO := hide ho
 have HG := hide hG
 clear hl hx ho hG
 go_enter Tryz.func80, Tryz.ntmps80
 go_wp2_with fail
 refine (mulAdd_new00 ov l0 (by have := HO.out; omega) HL.out.h0 _).mono ?_
 rintro e W ⟨p0, q0, rfl, hP, rfl⟩
 have HP := hide hP
 clear hP
 go_wp2_with fail
 refine (mulAdd_new0 ov l1 q0 (by have := HO.out; omega) HL.out.h1 HP.out.2.1 _).mono ?_
 rintro e W ⟨p1, q1, rfl, hQ, rfl⟩
 have HQ := hide hQ
 clear hQ
 go_wp2_with fail
 refine (sub_new (b3 := 0) HX.out ⟨HP.out.1, HQ.out.1, HQ.out.2.1, by decide⟩ _).mono ?_
 rintro e W1 ⟨t0, t1, t2, t3, k, rfl, ⟨hT, hk, hE⟩, hB⟩
 have HT := hide hT
 have HE := hide hE
 have hsz := hB.size
 simp only [World.size_alloc] at hB hsz
 have hB0 : Below w.heap.size w W1 := (((Below.refl _ w).alloc (Nat.le_refl _) _).alloc (by simp) _).trans (hB.mono (by omega))
 have hG1 : W1.heap[6]? = some (.cells #[nv l0, nv l1, nv l2, nv l3] T fr) := row_below HG.out hB0 (by omega)
 have hR1 : W1.heap[w.heap.size + 1]? = some (.cells #[.int .u64 0, .int .u64 0, .int .u64 0, .int .u64 0] 60 (0, 0)) := row_below (heap_alloc2_new _ _ _) hB (by omega)
 have HB0 := hide hB0
 have HG1 := hide hG1
 have HR1 := hide hR1
 clear hT hE hB hB0 hG1 hR1
 have k0 : W1.cell? ⟨6, 0, none⟩ = some (nv l0) := by rw [cell_of_row W1 6 0 _ T fr HG1.out]; rfl
 have k1 : W1.cell? ⟨6, 1, none⟩ = some (nv l1) := by rw [cell_of_row W1 6 1 _ T fr HG1.out]; rfl
 have k2 : W1.cell? ⟨6, 2, none⟩ = some (nv l2) := by rw [cell_of_row W1 6 2 _ T fr HG1.out]; rfl
 have k3 : W1.cell? ⟨6, 3, none⟩ = some (nv l3) := by rw [cell_of_row W1 6 3 _ T fr HG1.out]; rfl
 have hb5 : 6 < W1.heap.size := by omega
 have hk' : k = 0 ∨ k = 1 := by omega
 clear hk
 have hv0 := V_zero
 have hv1 := V_one
 rcases hk' with rfl | rfl
 ·
  go_wp2_with (first
   | (refine wpList_store_row (by rfl) 60 (.tmp 4) (.tmp 74) (by rfl) (w.heap.size + 1) #[nv t0, nv t1, nv t2, nv t3] (by rfl) (by rfl) 60 _ ((heap_alloc_old _ _ (by omega)).trans HR1.out) size4 rfl (w4_cell _ _ _ _) ?_))
  refine bodyPost_ret (v := w4 t0 t1 t2 t3) (results_cell_row Tryz.results80 _ _ (w.heap.size + 1) 60 #[nv t0, nv t1, nv t2, nv t3] (0, 0) _ (by rfl) (setRow_heap _ _ _ _ _ _ ((heap_alloc_old _ _ (by omega)).trans HR1.out)) under4 rfl size4) rfl ?_
  refine ⟨t0, t1, t2, t3, rfl, HT.out, Or.inl ?_, below_setRow (HB0.out.alloc HB0.out.size _) (by omega) _⟩
  have e1 := HP.out.2.2
  have e2 := HQ.out.2.2
  have e3 := HE.out
  rw [show of4 x0 x1 x2 x3 = of4 t0 t1 t2 t3 + of4 p0 p1 q1 0 by omega, Nat.mul_add, Nat.mul_left_comm, ← e1]
  unfold of4 at *
  have e4 : 18446744073709551616 * (ov * l1) = 18446744073709551616 * p1 + 340282366920938463463374607431768211456 * q1 - 18446744073709551616 * q0 := by omega
  omega
 ·
  go_wp2_with fail
  refine (add_new HT.out HL.out _).mono ?_
  rintro e W2 ⟨u0, u1, u2, u3, k, rfl, ⟨hT2, hk, hE2⟩, hB⟩
  have hsz2 := hB.size
  simp only [World.size_alloc] at hB hsz2
  have hB2 : Below w.heap.size w W2 := (HB0.out.alloc HB0.out.size _).trans (hB.mono (by omega))
  have HU := hide hT2
  have HE2 := hide hE2
  have HB2 := hide hB2
  have HR2 : Hid (W2.heap[w.heap.size + 1]? = some (.cells #[.int .u64 0, .int .u64 0, .int .u64 0, .int .u64 0] 60 (0, 0))) := row_below ((heap_alloc_old _ _ (by omega)).trans HR1.out) hB (by omega)
  have HT2 : Hid (W2.heap[W1.heap.size]? = some (.cells #[nv t0, nv t1, nv t2, nv t3] 60 (0, 0))) := row_below (heap_alloc_new _ _) hB (by omega)
  clear hT2 hE2 hB hB2
  go_wp2_with (first
   | (refine wpList_store_row (by rfl) 60 (.tmp 9) (.tmp 72) (by rfl) W1.heap.size #[nv u0, nv u1, nv u2, nv u3] (by rfl) (by rfl) 60 _ HT2.out size4 rfl (w4_cell _ _ _ _) ?_)
   | (refine wpList_load_row (by rfl) 60 (.tmp 9) (by rfl) W1.heap.size (by rfl) 60 #[nv u0, nv u1, nv u2, nv u3] (0, 0) _ (setRow_heap _ _ _ _ _ _ HT2.out) under4 rfl size4 ?_)
   | (refine wpList_store_row (by rfl) 60 (.tmp 4) (.tmp 74) (by rfl) (w.heap.size + 1) #[nv u0, nv u1, nv u2, nv u3] (by rfl) (by rfl) 60 _ ((setRow_other _ _ _ _ (by omega)).trans HR2.out) size4 rfl (w4_cell _ _ _ _) ?_))
  refine bodyPost_ret (v := w4 u0 u1 u2 u3) (results_cell_row Tryz.results80 _ _ (w.heap.size + 1) 60 #[nv u0, nv u1, nv u2, nv u3] (0, 0) _ (by rfl) (setRow_heap _ _ _ _ _ _ ((setRow_other _ _ _ _ (by omega)).trans HR2.out)) under4 rfl size4) rfl ?_
  refine ⟨u0, u1, u2, u3, rfl, HU.out, Or.inr ?_, below_setRow (below_setRow HB2.out (by omega) _) (by omega) _⟩
  have e1 := HP.out.2.2
  have e2 := HQ.out.2.2
  have e3 := HE.out
  have e5 := HE2.out
  have b1 := of4_lt HT.out
  have b2 := of4_lt HX.out
  have e6 : ov * (l0 + 18446744073709551616 * l1) = of4 p0 p1 q1 0 := by
   rw [Nat.mul_add, Nat.mul_left_comm, ← e1]
   unfold of4
   have e4 : 18446744073709551616 * (ov * l1) = 18446744073709551616 * p1 + 340282366920938463463374607431768211456 * q1 - 18446744073709551616 * q0 := by omega
   omega
  rw [e6]
  generalize of4 t0 t1 t2 t3 = t at *
  generalize of4 u0 u1 u2 u3 = u at *
  generalize of4 x0 x1 x2 x3 = x at *
  generalize of4 p0 p1 q1 0 = p at *
  generalize of4 l0 l1 l2 l3 = l at *
  exact ⟨by omega, k, by omega⟩
end
theorem withByte_any (n c : Nat) (hn : n < Lord) (hc : c < 256) (w : World) (hO : OrdAt w) :
  Calls Tryz.prog 80 #[num4 n, .int .u8 (V c)] w fun e w' => e = .returned (num4 ((256 * n + c) % Lord)) ∧ Below w.heap.size w w' := by
 obtain ⟨n0, n1, n2, n3, hs, rfl⟩ := words4 n (by unfold Lord at hn; omega)
 rw [num4_of hs]
 obtain ⟨T, fr, hG⟩ := hO.row
 have hlt : n3 / 4503599627370496 < 512 := by
  obtain ⟨h0, h1, h2, h3⟩ := hs
  unfold of4 Lord at hn
  omega
 have hnum := withByte_num hs hn hc
 have hx : Small4 (n0 * 256 % 18446744073709551616 + c) (n1 * 256 % 18446744073709551616 + n0 / 72057594037927936) (n2 * 256 % 18446744073709551616 + n1 / 72057594037927936) (n3 * 4096 % 18446744073709551616 / 16 + n2 / 72057594037927936) := by
  obtain ⟨h0, h1, h2, h3⟩ := hs
  exact ⟨by omega, by omega, by omega, by omega⟩
 refine (withByte_walk n0 n1 n2 n3 c _ _ _ _ _ _ _ _ _ _ _ _ _ _ _ _ _ w T fr hG (V_shr52 n3) (V_shl8 n0) (V_shl8 n1) (V_shl8 n2) (V_shl12 n3) (V_shr4 _) (V_shr56 n0) (V_shr56 n1) (V_shr56 n2) (V_u64 (by omega))
  (or_low' _ _ (by omega) (by omega) hc) (or_low' _ _ (by omega) (by omega) (by have := hs.h0; omega)) (or_low' _ _ (by omega) (by omega) (by have := hs.h1; omega)) (or_low' _ _ (by omega) (by omega) (by have := hs.h2; omega))
  ⟨by decide, by decide, by decide, by decide⟩ hx hlt).mono ?_
 rintro e w' ⟨t0, t1, t2, t3, rfl, ht, hor, hb⟩
 refine ⟨?_, hb⟩
 have hX : of4 (n0 * 256 % 18446744073709551616 + c) (n1 * 256 % 18446744073709551616 + n0 / 72057594037927936) (n2 * 256 % 18446744073709551616 + n1 / 72057594037927936) (n3 * 4096 % 18446744073709551616 / 16 + n2 / 72057594037927936) < 7237005577332262213973186563042994240829374041602535252466099000494570602496 := by
  obtain ⟨h0, h1, h2, h3⟩ := hs
  unfold of4; omega
 have e1 : of4 t0 t1 t2 t3 = (256 * of4 n0 n1 n2 n3 + c) % Lord := by
  have el : of4 6346243789798364141 1503914060200516822 0 1152921504606846976 = Lord := by decide +kernel
  have lt := of4_lt ht
  rw [el] at hor
  generalize of4 (n0 * 256 % 18446744073709551616 + c) (n1 * 256 % 18446744073709551616 + n0 / 72057594037927936) (n2 * 256 % 18446744073709551616 + n1 / 72057594037927936) (n3 * 4096 % 18446744073709551616 / 16 + n2 / 72057594037927936) = x at *
  generalize n3 / 4503599627370496 = ov at *
  generalize of4 t0 t1 t2 t3 = t at *
  rw [← hnum]
  unfold Lord at *
  rcases hor with h | ⟨h1, m, h2⟩
  · rw [show x + ov * 7237005577332262213973186563042994240829374041602535252466099000494570602496 = t + ov * 7237005577332262213973186563042994240857116359379907606001950938285454250989 by omega, Nat.add_mul_mod_self_right, Nat.mod_eq_of_lt (by omega)]
  ·
   obtain ⟨v, rfl⟩ : ∃ v, ov = v + 1 := ⟨ov - 1, by omega⟩
   rw [show x + (v + 1) * 7237005577332262213973186563042994240829374041602535252466099000494570602496 = t + v * 7237005577332262213973186563042994240857116359379907606001950938285454250989 by omega, Nat.add_mul_mod_self_right, Nat.mod_eq_of_lt (by omega)]
 rw [← e1, num4_of ht]
theorem V_and63 (x : Nat) (h : x < 18446744073709551616) : bits .and .u64 (V x) 9223372036854775807 = V (x % 9223372036854775808) := by
 have e := bits_and_u64_nat x 9223372036854775807 h (by omega)
 have e2 : x &&& 9223372036854775807 = x % 9223372036854775808 := Nat.and_two_pow_sub_one_eq_mod x 63
 rw [e2] at e
 exact e
theorem V_shr63 (x : Nat) : V x / 9223372036854775808 = V (x / 9223372036854775808) := by unfold V; omega
theorem V_mul19 (x : Nat) (h : x ≤ 1000) : IntKind.u64.wrap (19 * V x) = V (19 * x) := by unfold V; rw [IntKind.wrap_u64]; omega
theorem under33 : Tryz.prog.underlying 80 = some (.array 4 59) := by kernel_rfl
theorem size33 : (Tryz.prog.info? 80).map (·.size) = some 4 := by kernel_rfl
theorem add64_19 (x : Nat) (w : World) :
  (callFunc 144 #[nv x, .int .u64 19, .int .u64 0]).run Tryz.prog w = .ok (.value (.tuple #[nv (sumW x 19 0), nv (carW x 19 0)])) w := add64_run x 19 0 (by decide) w
theorem add64_c (x c : Nat) (hc : c ≤ 1) (w : World) :
  (callFunc 144 #[nv x, .int .u64 0, nv c]).run Tryz.prog w = .ok (.value (.tuple #[nv (sumW x 0 c), nv (carW x 0 c)])) w := add64_run x 0 c hc w
theorem P_val : P = 57896044618658097711785492504343953926634992332820282019728792003956564819949 := rfl
section
attribute [local go_sem] V_add
set_option maxHeartbeats 1000000 in
theorem reduce_walk (n0 n1 n2 n3 r s t : Nat) (hn : Small4 n0 n1 n2 n3) (w : World)
  (hr : V ((n3 + carW n2 0 (carW n1 0 (carW n0 19 0))) % 18446744073709551616) / 9223372036854775808 = V r) (hr1 : r ≤ 1) (hs : s = 19 * r)
  (ht : bits .and .u64 (V ((n3 + carW n2 0 (carW n1 0 (carW n0 s 0))) % 18446744073709551616)) 9223372036854775807 = V t) :
  Calls Tryz.prog 145 #[nv n0, nv n1, nv n2, nv n3] w fun e w' => e = .returned (w4 (sumW n0 s 0) (sumW n1 0 (carW n0 s 0)) (sumW n2 0 (carW n1 0 (carW n0 s 0))) t) ∧ Below w.heap.size w w' := by
 have hm := V_mul19 r (by omega)
 rw [← hs] at hm
 obtain ⟨b0, b1, b2, b3⟩ := hn
 have l0 : carW n0 19 0 ≤ 1 := carW_le b0 (by decide) (by decide)
 have l1 : carW n1 0 (carW n0 19 0) ≤ 1 := carW_le b1 (by decide) l0
 have k0 : carW n0 s 0 ≤ 1 := carW_le b0 (by omega) (by decide)
 have k1 : carW n1 0 (carW n0 s 0) ≤ 1 := carW_le b1 (by decide) k0
 have h1 := add64_19 n0
 have h2 := add64_c n1 _ l0
 have h3 := add64_c n2 _ l1
 have h4 := add64_run0 n0 s
 have h5 := add64_c n1 _ k0
 have h6 := add64_c n2 _ k1
 clear l0 l1 k0 k1 b0 b1 b2 b3 hs hr1
 go_enter Tryz.func145, Tryz.ntmps145
 go_wp2
 go_returns
 exact ⟨rfl, by go_grown⟩
end
theorem reduce_num {n0 n1 n2 n3 r : Nat} (h : Small4 n0 n1 n2 n3) (hN : of4 n0 n1 n2 n3 < 2 * P) (hr : r = (n3 + carW n2 0 (carW n1 0 (carW n0 19 0))) % 18446744073709551616 / 9223372036854775808) :
  r ≤ 1 ∧ of4 (sumW n0 (19 * r) 0) (sumW n1 0 (carW n0 (19 * r) 0)) (sumW n2 0 (carW n1 0 (carW n0 (19 * r) 0))) ((n3 + carW n2 0 (carW n1 0 (carW n0 (19 * r) 0))) % 18446744073709551616 % 9223372036854775808) = of4 n0 n1 n2 n3 % P := by
 obtain ⟨h0, h1, h2, h3⟩ := h
 rw [P_val] at *
 have l0 : carW n0 19 0 ≤ 1 := carW_le h0 (by decide) (by decide)
 have l1 : carW n1 0 (carW n0 19 0) ≤ 1 := carW_le h1 (by decide) l0
 have e0 := @sumW_eq n0 19 0
 have e1 := @sumW_eq n1 0 (carW n0 19 0)
 have e2 := @sumW_eq n2 0 (carW n1 0 (carW n0 19 0))
 have t0 := sumW_lt n0 19 0
 have t1 := sumW_lt n1 0 (carW n0 19 0)
 have t2 := sumW_lt n2 0 (carW n1 0 (carW n0 19 0))
 generalize carW n2 0 (carW n1 0 (carW n0 19 0)) = c2 at *
 generalize sumW n2 0 (carW n1 0 (carW n0 19 0)) = s2 at *
 generalize sumW n1 0 (carW n0 19 0) = s1 at *
 generalize carW n1 0 (carW n0 19 0) = c1 at *
 generalize sumW n0 19 0 = s0 at *
 generalize carW n0 19 0 = c0 at *
 have hr1 : r ≤ 1 := by omega
 refine ⟨hr1, ?_⟩
 have hrN : r = (of4 n0 n1 n2 n3 + 19) / 57896044618658097711785492504343953926634992332820282019728792003956564819968 := by unfold of4 at *; omega
 have k0 : carW n0 (19 * r) 0 ≤ 1 := carW_le h0 (by omega) (by decide)
 have k1 : carW n1 0 (carW n0 (19 * r) 0) ≤ 1 := carW_le h1 (by decide) k0
 have f0 := @sumW_eq n0 (19 * r) 0
 have f1 := @sumW_eq n1 0 (carW n0 (19 * r) 0)
 have f2 := @sumW_eq n2 0 (carW n1 0 (carW n0 (19 * r) 0))
 have u0 := sumW_lt n0 (19 * r) 0
 have u1 := sumW_lt n1 0 (carW n0 (19 * r) 0)
 have u2 := sumW_lt n2 0 (carW n1 0 (carW n0 (19 * r) 0))
 clear e0 e1 e2 t0 t1 t2 l0 l1 hr
 generalize carW n2 0 (carW n1 0 (carW n0 (19 * r) 0)) = d2 at *
 generalize sumW n2 0 (carW n1 0 (carW n0 (19 * r) 0)) = v2 at *
 generalize sumW n1 0 (carW n0 (19 * r) 0) = v1 at *
 generalize carW n1 0 (carW n0 (19 * r) 0) = d1 at *
 generalize sumW n0 (19 * r) 0 = v0 at *
 generalize carW n0 (19 * r) 0 = d0 at *
 have : r = 0 ∨ r = 1 := by omega
 rcases this with rfl | rfl
 ·
  have e : of4 n0 n1 n2 n3 % 57896044618658097711785492504343953926634992332820282019728792003956564819949 = of4 n0 n1 n2 n3 := Nat.mod_eq_of_lt (by omega)
  rw [e]
  unfold of4 at *
  omega
 ·
  have e : of4 n0 n1 n2 n3 % 57896044618658097711785492504343953926634992332820282019728792003956564819949 = of4 n0 n1 n2 n3 - 57896044618658097711785492504343953926634992332820282019728792003956564819949 := by omega
  rw [e]
  unfold of4 at *
  omega
theorem reduce4_any {n0 n1 n2 n3 : Nat} (h : Small4 n0 n1 n2 n3) (hN : of4 n0 n1 n2 n3 < 2 * P) (w : World) :
  Calls Tryz.prog 145 #[nv n0, nv n1, nv n2, nv n3] w fun e w' => e = .returned (num4 (of4 n0 n1 n2 n3 % P)) ∧ Below w.heap.size w w' := by
 obtain ⟨hr1, hv⟩ := reduce_num h hN rfl
 have hs : Small4 (sumW n0 (19 * ((n3 + carW n2 0 (carW n1 0 (carW n0 19 0))) % 18446744073709551616 / 9223372036854775808)) 0) (sumW n1 0 (carW n0 (19 * ((n3 + carW n2 0 (carW n1 0 (carW n0 19 0))) % 18446744073709551616 / 9223372036854775808)) 0)) (sumW n2 0 (carW n1 0 (carW n0 (19 * ((n3 + carW n2 0 (carW n1 0 (carW n0 19 0))) % 18446744073709551616 / 9223372036854775808)) 0))) ((n3 + carW n2 0 (carW n1 0 (carW n0 (19 * ((n3 + carW n2 0 (carW n1 0 (carW n0 19 0))) % 18446744073709551616 / 9223372036854775808)) 0))) % 18446744073709551616 % 9223372036854775808) :=
  ⟨sumW_lt _ _ _, sumW_lt _ _ _, sumW_lt _ _ _, by omega⟩
 refine (reduce_walk n0 n1 n2 n3 _ _ _ h w (V_shr63 _) hr1 rfl (V_and63 _ (by omega))).mono fun e w' he => ⟨?_, he.2⟩
 rw [he.1, ← hv, num4_of hs]
end Go.Proofs.YtccgfabojbjmjaaGreatDoor
