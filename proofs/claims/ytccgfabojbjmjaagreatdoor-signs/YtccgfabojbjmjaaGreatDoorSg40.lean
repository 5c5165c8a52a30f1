import Derived.Test.YtccgfabojbjmjaaGreatDoorSg31
import Derived.Laws.CopyOwn
import Derived.Test.YtccgfabojbjmjaaGreatDoorSg39
import Derived.OwnWalk
namespace Go.Proofs.YtccgfabojbjmjaaGreatDoor
open Go.RowKit
theorem slice64w (b : Nat) (w : World) :
  (Instr.sliceAt 102 (.pointer (some ⟨b, 0, none⟩)) none none none).run Tryz.prog w = .ok (.slice (some ⟨b, 0, none⟩) 64 64) w := by
 cases hq : Tryz.prog.info? 5 with
 | none => have := sizeU8; rw [hq] at this; cases this
 | some i =>
  simp [Instr.sliceAt, Instr.sureAddr, run_underlying under64, Instr.sliceBounds, sizeOf, typeInfo, hq, Addr.add]
theorem qdK (b : Nat) (w : World) :
  (Instr.sliceAt 102 (.pointer (some ⟨b, 0, none⟩)) (some (.int .i64 32)) none none).run Tryz.prog w = .ok (.slice (some ⟨b, 32, none⟩) 32 32) w := by
 cases hq : Tryz.prog.info? 5 with
 | none => have := sizeU8; rw [hq] at this; cases this
 | some i =>
  have hb : (Instr.sliceBound (.int .i64 32) 64 .sliceB).run Tryz.prog w = .ok 32 w := rfl
  have hs : i.size = 1 := by have := sizeU8; rw [hq] at this; simpa using this
  simp [Instr.sliceAt, Instr.sureAddr, run_underlying under64, Instr.sliceBounds, sizeOf, typeInfo, hq, hs, Addr.add, hb]
theorem slice64_to (b : Nat) (w : World) :
  (Instr.sliceAt 102 (.pointer (some ⟨b, 0, none⟩)) none (some (.int .i64 32)) none).run Tryz.prog w = .ok (.slice (some ⟨b, 0, none⟩) 32 64) w := by
 cases hq : Tryz.prog.info? 5 with
 | none => have := sizeU8; rw [hq] at this; cases this
 | some i =>
  have hb : (Instr.sliceBound (.int .i64 32) 64 .sliceAlen).run Tryz.prog w = .ok 32 w := rfl
  simp [Instr.sliceAt, Instr.sureAddr, run_underlying under64, Instr.sliceBounds, sizeOf, typeInfo, hq, Addr.add, hb]
theorem qdo (b o : Nat) (w : World) :
  (Instr.sliceAt 62 (.pointer (some ⟨b, o, none⟩)) none none none).run Tryz.prog w = .ok (.slice (some ⟨b, o, none⟩) 32 32) w := by
 cases hq : Tryz.prog.info? 5 with
 | none => have := sizeU8; rw [hq] at this; cases this
 | some i =>
  simp [Instr.sliceAt, Instr.sureAddr, run_underlying qbF, Instr.sliceBounds, sizeOf, typeInfo, hq, Addr.add]
theorem hrunCopy {a : Act} {o : Oper} (x y : Operand) (ho : o.op = .call { callee := .builtin .copy, args := #[x, y], argTypes := #[89, 89] })
  (g off q n : Nat) (hn : 32 ≤ n) (hx : a.eval x = .slice (some ⟨g, off, none⟩) n n) (hy : a.eval y = .slice (some ⟨q, 0, none⟩) 32 32) (w : World) (l m : List UInt8) (hl : l.length = 32) (hm : off + 32 ≤ m.length)
  (T U : TypeId) (hq : w.heap[q]? = some (.cells (l.map cv).toArray T (0, 0))) (hg : w.heap[g]? = some (.cells (m.map cv).toArray U (0, 0))) :
  (execOp a.eval o).run Tryz.prog w = .ok (.value (.int .i64 32)) (w.setRow g ((splice m off l).map cv).toArray) := by
 have hrun := run_copy_row (P := Tryz.prog) w 89 89 o.type 5 g off n n ⟨q, 0, none⟩ 32 32 (m.map cv).toArray U (l.map cv) underSl8 sizeU8 hg (by rw [List.length_map, hl]; exact (Nat.min_eq_left hn).symm)
  (fun j v hv => by rw [Addr.add_mid, Nat.zero_add, cell_of_row w q j _ T _ hq]; simpa using hv) (by simp [hl]; omega) (fun v hv => by obtain ⟨c, _, rfl⟩ := List.mem_map.1 hv; rfl)
 have e : ((m.map cv).toArray.toList.take off ++ l.map cv ++ (m.map cv).toArray.toList.drop (off + (l.map cv).length)).toArray = ((splice m off l).map cv).toArray := by
  unfold splice; simp
 rw [e] at hrun
 simp [execOp, ho, resolve, invoke, builtin, hx, hy, hrun, Result.andThen, goInt, hl]
theorem underSlB : Tryz.prog.underlying 89 = some (.slice 5) := by kernel_rfl
theorem infoB : (Tryz.prog.info? 5).map (fun i => (i.zero, i.size, i.bytes)) = some (some (.int .u8 0), 1, 1) := by kernel_rfl
def twoB (D : List Int) (k : Nat) : List UInt8 := (D.take k).flatMap fun x => [UInt8.ofNat (x % 256).toNat, UInt8.ofNat (x / 256).toNat]
theorem twoB_step (D : List Int) (k : Nat) (h : k < D.length) : twoB D (k + 1) = twoB D k ++ [UInt8.ofNat (D.getD k 0 % 256).toNat, UInt8.ofNat (D.getD k 0 / 256).toNat] := by
 unfold twoB
 rw [List.take_succ_eq_append_getElem h, List.flatMap_append]
 simp [List.getD, List.getElem?_eq_getElem h]
theorem qdn (D : List Int) (k : Nat) (h : k ≤ D.length) : (twoB D k).length = 2 * k := by
 induction k with
 | zero => rfl
 | succ k ih => rw [twoB_step D k (by omega), List.length_append, ih (by omega)]; simp; omega
theorem byteLo {x : Int} (x0 : 0 ≤ x) (_x1 : x < 65536) : IntKind.u8.wrap (x.tmod 256) = C8 (UInt8.ofNat (x % 256).toNat) := by
 have e : x.tmod 256 = x % 256 := Int.tmod_eq_emod_of_nonneg x0
 have e2 : IntKind.u8.wrap (x.tmod 256) = x.tmod 256 % 256 := by simp [IntKind.wrap, IntKind.bits, IntKind.signed]
 rw [e2, e]; unfold C8; rw [UInt8.toNat_ofNat']; omega
theorem byteHi {x : Int} (x0 : 0 ≤ x) (x1 : x < 65536) : IntKind.u8.wrap (IntKind.i64.wrap (x.tdiv 256)) = C8 (UInt8.ofNat (x / 256).toNat) := by
 have e : x.tdiv 256 = x / 256 := Int.tdiv_eq_ediv_of_nonneg x0
 have e1 : IntKind.i64.wrap (x / 256) = x / 256 := by rw [IntKind.wrap_i64]; omega
 have e2 : IntKind.u8.wrap (x / 256) = x / 256 % 256 := by simp [IntKind.wrap, IntKind.bits, IntKind.signed]
 rw [e, e1, e2]; unfold C8; rw [UInt8.toNat_ofNat']; omega
section
set_option maxRecDepth 100000 in
set_option maxHeartbeats 400000 in
theorem sbytes_any (D : List Int) (hl : D.length = 17) (hb : ∀ x ∈ D, 0 ≤ x ∧ x < 65536) (w : World) :
  Calls Tryz.prog 40 #[.agg (D.map iv).toArray] w fun e w' => e = .returned (.string (qaL (twoB D 16))) ∧ Below w.heap.size w w' := by
 obtain ⟨i0, hi, hz0, hz1, hz2⟩ := info_parts infoB
 have HI := qaf hi
 have HZ0 := qaf hz0
 have HZ1 := qaf hz1
 have HZ2 := qaf hz2
 have HL := qaf hl
 have HB := qaf hb
 clear hi hz0 hz1 hz2 hl hb
 obtain ⟨M, HM⟩ : ∃ M, Hid (M = (D.map iv).toArray) := ⟨_, rfl⟩
 rw [← HM.out]
 go_enter Tryz.func40, Tryz.ntmps40
 go_wp2_with fail
 go_loopw [3, 4] (fun v i wr => ∃ k : Nat, k ≤ 16 ∧ i = .int .i64 k ∧ Hid (wr.heap[w.heap.size]? = some (.cells M 91 (0, 0))) ∧ Hid (Own wr (w.heap.size + 1) 5 v ((twoB D k).map cv)) ∧ Hid (Below w.heap.size w wr)) (fun _ i _ => 16 - (intOf i).toNat)
 case atStart => exact ⟨0, Nat.zero_le _, rfl, heap_alloc_new _ _, Own.nil _ _ _, (Below.refl _ _).alloc (Nat.le_refl _) _⟩
 case round =>
  obtain ⟨k, hk, rfl, H0, HO, HBl⟩ := hrel
  by_cases hlt : k < 16
  ·
   have bk : (k : Int) < 17 := by omega
   have bk' : (k : Int) < 16 := by omega
   have c0 := qaP (by rw [← HM.out]; exact H0.out) k (by rw [HL.out]; omega)
   obtain ⟨x, HX⟩ : ∃ x, Hid (x = D.getD k 0) := ⟨_, rfl⟩
   have hx := HB.out _ (qay (l := D) (i := k) (by rw [HL.out]; omega))
   rw [← HX.out] at c0 hx
   obtain ⟨x0, x1⟩ := hx
   have HLn : Hid (((twoB D k).map cv).length = 2 * k) := by show _ = _; rw [List.length_map, qdn _ _ (by rw [HL.out]; omega)]
   have HSl : Hid (w.heap.size + 1 ≤ wr.heap.size) := qae H0.out
   go_wp2_with fail
   go_region_held3 (fun w' => w'.cell? ⟨w.heap.size, k, none⟩ = some (iv x))
    (first | exact (World.cell?_of_block (w := _) (hG2.out.block w.heap.size (by have := HSl.out; simp; omega) (by intro hh; have := own_ge HO.out hh.symm; omega))).trans ((World.cell?_alloc_lt _ _ _ (by exact HSl.out)).trans c0) | exact ((World.cell?_alloc_lt _ _ _ (by exact HSl.out)).trans c0) | go_keep)
    (first | (refine step_append_Own _ (by rfl) (.tmp 9) (.tmp 20) 89 (by rfl) (w.heap.size + 1) 5 i0 (.int .u8 0) 1 underSlB HI.out HZ0.out HZ1.out HZ2.out rfl _ ((twoB D k).map cv) (by rfl) (Own.alloc (by exact HO.out) _) ⟨wr.heap.size, 0, none⟩ 2 2 [_, _] (by rfl) rfl (by exact cell_two_new _ _ _ _) (by intro u hu; simp at hu; rcases hu with rfl | rfl <;> rfl) (by rw [HLn.out]; unfold maxLen; omega) (by rw [HLn.out]; omega) (by have := HSl.out; simp; omega) ?_; intro v1 W3 hO2 hG2 HK3))
   have HB3 : Hid (Below w.heap.size w W3) := (HBl.out.alloc HBl.out.size _).drew.grown hG2.out (by have := HSl.out; simp; omega) (fun q hq => by have := own_ge HO.out hq; omega)
   have HO3 : Hid (Own W3 (w.heap.size + 1) 5 v1 ((twoB D (k + 1)).map cv)) := by
    have e := hO2.out
    rw [byteLo x0 x1, byteHi x0 x1, HX.out] at e
    rw [twoB_step D k (by rw [HL.out]; omega), List.map_append]
    exact e
   have H03 : Hid (W3.heap[w.heap.size]? = some (.cells M 91 (0, 0))) :=
    (hG2.out.block w.heap.size (by have := HSl.out; simp; omega) (by intro hh; have := own_ge HO.out hh.symm; omega)).trans ((heap_alloc_old _ _ (by have := HSl.out; omega)).trans H0.out)
   clear HO H0 HBl hO2 hG2 HK3 c0
   go_wp2_with fail
   refine ⟨⟨k + 1, by omega, by go_num, H03, HO3, HB3⟩, by simp [intOf]; omega⟩
  ·
   have hk16 : k = 16 := by omega
   have bk : (16 : Int) ≤ (k : Int) := by omega
   have HO' : Own wr (w.heap.size + 1) 5 u3 ((twoB D 16).map cv) := by
    have e := HO.out; rw [hk16] at e; exact e
   have hfl : (twoB D 16).length = 32 := qdn _ _ (by rw [HL.out]; decide)
   obtain ⟨go, capo, hv, _, _, _, _, hc⟩ := HO'.form (by rw [List.length_map, hfl]; omega)
   rw [List.length_map, hfl] at hv
   subst hv
   have hcv : (convert 89 9 (.slice (some ⟨go, 0, none⟩) 32 capo)).run Tryz.prog wr = .ok (.string (qaL (twoB D 16))) wr := by
    have e := run_convert_bytes_back (P := Tryz.prog) wr 89 9 5 ⟨go, 0, none⟩ capo (twoB D 16) underSlB (by kernel_rfl) (by kernel_rfl) (fun i hi => by
     rw [Addr.add_mid, Nat.zero_add, hc i (by rw [List.length_map]; exact hi), List.getElem?_map, List.getElem?_eq_getElem hi]
     rfl)
    rw [hfl] at e; exact e
   clear HO HO' hc hk hlt hk16 hfl
   generalize hD : qaL (twoB D 16) = T at hcv
   have HD := qaf hD
   clear hD
   go_wp2_with fail
   go_ret
   exact ⟨by rw [HD.out]; rfl, HBl.out⟩
end
theorem dB_getR (B : Int) (hB : 0 < B) (K k : Nat) (n : Int) (h : k < K) : (dB B K n).getD k 0 = n / B ^ k % B := by
 induction k generalizing K n with
 | zero => cases K with
  | zero => omega
  | succ K => simp [dB]
 | succ k ih => cases K with
  | zero => omega
  | succ K =>
   have := ih K (n / B) (by omega)
   simp only [dB, List.getD_cons_succ, this]
   rw [Int.pow_succ, Int.mul_comm, Int.ediv_ediv_of_nonneg (by omega)]
theorem leB_two (n k : Nat) : leB n (2 * (k + 1)) = leB n (2 * k) ++ [qbe n (2 * k), qbe n (2 * k + 1)] := by
 unfold leB
 rw [show 2 * (k + 1) = 2 * k + 1 + 1 by omega, List.range_succ, List.range_succ]
 simp
theorem pow2k (k : Nat) : 65536 ^ k = 256 ^ (2 * k) := by rw [Nat.pow_mul]
theorem twoB_leB (n K k : Nat) (h : k ≤ K) : twoB (dB 65536 K (n : Int)) k = leB n (2 * k) := by
 induction k with
 | zero => rfl
 | succ k ih =>
  rw [twoB_step _ _ (by rw [qaT]; omega), ih (by omega), leB_two, dB_getR 65536 (by decide) K k _ (by omega)]
  have e0 : ((n : Int) / 65536 ^ k) = ((n / 256 ^ (2 * k) : Nat) : Int) := by
   rw [← pow2k, Int.natCast_ediv, Int.natCast_pow]; rfl
  have e1 : n / 256 ^ (2 * k + 1) = n / 256 ^ (2 * k) / 256 := by rw [Nat.pow_succ, Nat.div_div_eq_div_mul]
  rw [e0]
  unfold qbe
  rw [e1]
  generalize n / 256 ^ (2 * k) = x
  congr 2
  ·
   apply UInt8.toNat_inj.1
   rw [UInt8.toNat_ofNat', UInt8.toNat_ofNat']; omega
  ·
   congr 1
   apply UInt8.toNat_inj.1
   rw [UInt8.toNat_ofNat', UInt8.toNat_ofNat']; omega
theorem qaW {w : World} {b n : Nat} {T : TypeId} {fr : Nat × Nat} (h : w.heap[b]? = some (.cells (fA n) T fr)) : w.rangeAt b 0 (fL n) := by
 intro j v hv
 rw [Nat.zero_add, cell_of_row w b j _ T _ h, show fA n = (fL n).toArray from rfl, List.getElem?_toArray]
 exact hv
theorem qcJ {a : Act} {o : Oper} (x y z : Operand) (ho : o.op = .call { callee := .value (.func 34), args := #[x, y, z], argTypes := #[95, 91, 98] }) (v1 v2 v3 : Value) (hx : a.eval x = v1) (hy : a.eval y = v2) (hz : a.eval z = v3) (w : World) :
  (execOp a.eval o).run Tryz.prog w = .ok (.enter 34 #[v1, v2, v3]) w := by
 unfold execOp
 simp only [ho]
 subst hx hy hz
 go_simp
theorem qbH {a : Act} {o : Oper} (ho : o.op = .alloc 98) (w : World) :
  (execOp a.eval o).run Tryz.prog w = .ok (.value (.pointer (some ⟨w.heap.size, 0, none⟩))) (w.alloc (.cells (qA q0) 98)) := by
 have hz := zeroQ
 unfold execOp
 simp only [ho]
 go_simp
end Go.Proofs.YtccgfabojbjmjaaGreatDoor
namespace Go.Proofs.YtccgfabojbjmjaaGreatDoor
theorem RQ_one : RQ one3 g0 := by
 refine ⟨⟨qbQ, qed, qed⟩, ?_, ?_, ?_⟩
 ·
  show tau 1 ≠ 0
  rw [qbq]; exact one_ne
 ·
  show tau 0 = 0 * tau 1
  rw [tau_zero, Fin.zero_mul]
 ·
  show tau 1 = 1 * tau 1
  rw [Fin.one_mul]
theorem wI_val (l : List UInt8) (j : Nat) : wI l j = ((qaC l / 65536 ^ j % 65536 : Nat) : Int) := by
 have h0 := qcK l (2 * j)
 have h1 := qcK l (2 * j + 1)
 unfold wI C8
 rw [← h0, ← h1, Nat.pow_succ, show (256 : Nat) ^ (2 * j) = 65536 ^ j by rw [Nat.pow_mul], ← Nat.div_div_eq_div_mul]
 generalize qaC l / 65536 ^ j = x
 omega
theorem bit_of (x q r : Nat) (hr : r < 16) : x / 65536 ^ q % 65536 / 2 ^ r % 2 = x / 2 ^ (16 * q + r) % 2 := by
 have e : (65536 : Nat) ^ q = 2 ^ (16 * q) := by rw [Nat.pow_mul]
 rw [e, Nat.pow_add, ← Nat.div_div_eq_div_mul]
 generalize x / 2 ^ (16 * q) = y
 have h : r = 0 ∨ r = 1 ∨ r = 2 ∨ r = 3 ∨ r = 4 ∨ r = 5 ∨ r = 6 ∨ r = 7 ∨ r = 8 ∨ r = 9 ∨ r = 10 ∨ r = 11 ∨ r = 12 ∨ r = 13 ∨ r = 14 ∨ r = 15 := by omega
 rcases h with rfl | rfl | rfl | rfl | rfl | rfl | rfl | rfl | rfl | rfl | rfl | rfl | rfl | rfl | rfl | rfl <;> simp only [Nat.reducePow, Nat.pow_zero, Nat.div_one] <;> omega
theorem btI_val (l : List UInt8) (i : Nat) : btI l i = decide (qaC l / 2 ^ i % 2 = 1) := by
 unfold btI
 rw [wI_val]
 have e : ((qaC l / 65536 ^ (i / 16) % 65536 : Nat) : Int) / 2 ^ (i % 16) % 2 = ((qaC l / 65536 ^ (i / 16) % 65536 / 2 ^ (i % 16) % 2 : Nat) : Int) := by
  rw [Int.natCast_emod, Int.natCast_ediv, Int.natCast_pow]; rfl
 rw [e, bit_of _ _ _ (Nat.mod_lt _ (by decide)), show 16 * (i / 16) + i % 16 = i by omega]
 by_cases h : qaC l / 2 ^ i % 2 = 1
 · rw [decide_eq_true h, h]; rfl
 · rw [decide_eq_false h, decide_eq_false (by omega)]
theorem RQ_tmQ {q : Q3} {a : G} (h : RQ q a) (l : List UInt8) (hl : qaC l < 115792089237316195423570985008687907853269984665640564039457584007913129639936) : ∀ k, k ≤ 256 → RQ (tmQ dN l q k) (gMul (qaC l / 2 ^ (256 - k)) a)
 | 0, _ => by
  rw [Nat.sub_zero, Nat.div_eq_of_lt hl]; exact RQ_one
 | k + 1, hk => by
  have ih := RQ_tmQ h l hl k (by omega)
  rw [tmQ, btI_val, plusD_plusQ, plusD_plusQ]
  have e := div_bit (qaC l) (255 - k)
  rw [show 255 - k + 1 = 256 - k by omega] at e
  rw [show 256 - (k + 1) = 255 - k by omega]
  by_cases hb : qaC l / 2 ^ (255 - k) % 2 = 1
  ·
   rw [decide_eq_true hb, if_pos rfl, e, hb, gMul_succ, gMul_dbl]
   exact RQ_plus (RQ_plus ih ih) h
  ·
   have hb0 : qaC l / 2 ^ (255 - k) % 2 = 0 := by omega
   rw [decide_eq_false hb, if_neg (by decide), e, hb0, Nat.add_zero, gMul_dbl]
   exact RQ_plus ih ih
theorem RQ_times {q : Q3} {a : G} (h : RQ q a) (l : List UInt8) (hl : qaC l < 115792089237316195423570985008687907853269984665640564039457584007913129639936) : RQ (tmQ dN l q 256) (gMul (qaC l) a) := by
 have := RQ_tmQ h l hl 256 (Nat.le_refl _)
 rw [Nat.sub_self, Nat.pow_zero, Nat.div_one] at this
 exact this
theorem point_G {s : ByteArray} (h : qd7 dN s = true) : ∃ a : G, RP (poP s) a ∧ RQ (pofQ dN s) a := by
 obtain ⟨x, y, hx, hy, e1, e2⟩ := point_same h
 have hb : poB s = true := by rw [poB_same]; exact h
 have hd : dcB (ksN s) = true := by
  unfold poB at hb
  rw [Bool.and_eq_true] at hb
  exact hb.2
 obtain ⟨x', y', hx', hy', ho, e3⟩ := dcP_on hd
 have e4 : poP s = ptOf x' y' := by unfold poP; rw [if_pos hb, e3]
 have e5 : ptOf x y = ptOf x' y' := e1.symm.trans e4
 have ex : x = x' := congrArg Pt.x e5
 have ey : y = y' := congrArg Pt.y e5
 subst ex ey
 exact ⟨_, by rw [e1]; exact RP_of hx hy ho, by rw [e2]; exact RQ_of hx hy ho⟩
theorem poP_dcP {s : ByteArray} (h : poB s = true) : poP s = dcP (ksN s) := by unfold poP; rw [if_pos h]
end Go.Proofs.YtccgfabojbjmjaaGreatDoor
