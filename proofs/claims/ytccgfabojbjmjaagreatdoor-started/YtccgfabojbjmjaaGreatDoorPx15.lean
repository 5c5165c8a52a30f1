import Derived.Test.YtccgfabojbjmjaaGreatDoorPx14
import Derived.BigRegion
namespace Go.Proofs.YtccgfabojbjmjaaGreatDoor
open Go.RowKit
theorem sizeOf8 : (Tryz.prog.info? 5).map (·.size) = some 1 := by kernel_rfl
theorem under8' : Tryz.prog.underlying 5 = some (.int .u8) := by kernel_rfl
theorem part8 (xs : Array Value) (i : Nat) (v : Value) (h : xs[i]? = some v) (w : World) : (part 5 xs i).run Tryz.prog w = .ok v w := by
 cases hq : Tryz.prog.info? 5 with
 | none => have := sizeOf8; rw [hq] at this; cases this
 | some inf =>
  have hi : inf.size = 1 := by have := sizeOf8; rw [hq] at this; simpa using this
  simp [part, sizeOf, typeInfo, hq, hi, h]
theorem index32 (l : List UInt8) (hl : l.length = 32) (i : Nat) (hi : i < 32) (w : World) :
  (Instr.index 61 (.agg (l.map cv).toArray) (.int .i64 i)).run Tryz.prog w = .ok (cv (l.getD i 0)) w := by
 cases hq : Tryz.prog.info? 5 with
 | none => have := sizeOf8; rw [hq] at this; cases this
 | some inf =>
  have hs : inf.size = 1 := by have := sizeOf8; rw [hq] at this; simpa using this
  have h0 : (l.map cv).toArray[i]? = some (cv (l.getD i 0)) := by simp [hl, hi]
  simp [Instr.index, asIntOf, run_underlying under32, sizeOf, typeInfo, hq, hs, part8 _ i _ h0]
  intro h; omega
theorem wd_put (n c q r : Nat) (hn : n < 256 ^ (8 * q + r)) (hc : c < 256) (hq : q < 4) (hr : r < 8) :
  wd n q < 2 ^ (r * 8) ∧ num4A (n + c * 256 ^ (8 * q + r)) = ([nv (wd n 0), nv (wd n 1), nv (wd n 2), nv (wd n 3)].set q (nv (wd n q + c * 2 ^ (r * 8)))).toArray := by
 have h4 : q = 0 ∨ q = 1 ∨ q = 2 ∨ q = 3 := by omega
 have h8 : r = 0 ∨ r = 1 ∨ r = 2 ∨ r = 3 ∨ r = 4 ∨ r = 5 ∨ r = 6 ∨ r = 7 := by omega
 have key : wd n q < 2 ^ (r * 8) ∧ wd (n + c * 256 ^ (8 * q + r)) q = wd n q + c * 2 ^ (r * 8) ∧ (∀ p, p < 4 → p ≠ q → wd (n + c * 256 ^ (8 * q + r)) p = wd n p) := by
  refine ⟨?_, ?_, ?_⟩
  ·
   unfold wd
   rcases h4 with rfl | rfl | rfl | rfl <;> rcases h8 with rfl | rfl | rfl | rfl | rfl | rfl | rfl | rfl <;> simp only [Nat.reducePow, Nat.reduceMul, Nat.reduceAdd, Nat.pow_zero, Nat.div_one] at * <;> omega
  ·
   unfold wd
   rcases h4 with rfl | rfl | rfl | rfl <;> rcases h8 with rfl | rfl | rfl | rfl | rfl | rfl | rfl | rfl <;> simp only [Nat.reducePow, Nat.reduceMul, Nat.reduceAdd, Nat.pow_zero, Nat.div_one] at * <;> omega
  ·
   intro p hp hpq
   have hp4 : p = 0 ∨ p = 1 ∨ p = 2 ∨ p = 3 := by omega
   unfold wd
   rcases h4 with rfl | rfl | rfl | rfl <;> rcases hp4 with rfl | rfl | rfl | rfl <;> first | omega | (rcases h8 with rfl | rfl | rfl | rfl | rfl | rfl | rfl | rfl <;> simp only [Nat.reducePow, Nat.reduceMul, Nat.reduceAdd, Nat.pow_zero, Nat.div_one] at * <;> omega)
 obtain ⟨k0, k1, k2⟩ := key
 refine ⟨k0, ?_⟩
 unfold num4A
 rcases h4 with rfl | rfl | rfl | rfl
 · rw [k1, k2 1 (by decide) (by decide), k2 2 (by decide) (by decide), k2 3 (by decide) (by decide)]; rfl
 · rw [k1, k2 0 (by decide) (by decide), k2 2 (by decide) (by decide), k2 3 (by decide) (by decide)]; rfl
 · rw [k1, k2 0 (by decide) (by decide), k2 1 (by decide) (by decide), k2 3 (by decide) (by decide)]; rfl
 · rw [k1, k2 0 (by decide) (by decide), k2 1 (by decide) (by decide), k2 2 (by decide) (by decide)]; rfl
theorem valLE_take (l : List UInt8) (k : Nat) (hk : k < l.length) : valLE (l.take (k + 1)) = valLE (l.take k) + (l.getD k 0).toNat * 256 ^ k := by
 induction l generalizing k with
 | nil => simp at hk
 | cons c l ih => cases k with
  | zero => simp [valLE]
  | succ k =>
   have := ih k (by simpa using hk)
   simp only [List.take_succ_cons, valLE, List.getD_cons_succ] at *
   rw [this, Nat.pow_succ, Nat.mul_add]
   rw [Nat.mul_comm (256 ^ k) 256, Nat.mul_left_comm]; omega
theorem valLE_bound (l : List UInt8) : valLE l < 256 ^ l.length := by
 induction l with
 | nil => simp [valLE]
 | cons c l ih =>
  have := c.toNat_lt
  simp only [valLE, List.length_cons, Nat.pow_succ]
  omega
theorem far_set {w : World} {g g' : Nat} {o : Obj} (i : Nat) (v : Value) (h : w.heap[g]? = some o) (hne : g ≠ g') : (w.setCell ⟨g', i, none⟩ v).drew.heap[g]? = some o :=
 (Below.heap_setCell w _ v g hne).trans h
theorem or_put (x y r : Nat) (hx : x < 2 ^ (r * 8)) (hy : y < 256) (hr : r < 8) : bits .or .u64 (V x) (V (y * 2 ^ (r * 8))) = V (x + y * 2 ^ (r * 8)) := by
 have b1 : 2 ^ (r * 8) ≤ 2 ^ 56 := Nat.pow_le_pow_right (by decide) (by omega)
 have b2 : y * 2 ^ (r * 8) ≤ 255 * 2 ^ 56 := Nat.mul_le_mul (by omega) b1
 have e1 : (2 : Nat) ^ 56 = 72057594037927936 := by decide
 rw [e1] at b1 b2
 unfold V
 rw [bits_or_u64_nat _ _ (by omega) (by omega)]
 congr 1
 rw [Nat.or_comm, Nat.add_comm, Nat.mul_comm]
 exact (Nat.two_pow_add_eq_or_of_lt hx y).symm
theorem V_shlr (c r : Nat) (hc : c < 256) (hr : r < 8) : IntKind.u64.wrap (V c * 2 ^ (r * 8)) = V (c * 2 ^ (r * 8)) := by
 have b1 : 2 ^ (r * 8) ≤ 2 ^ 56 := Nat.pow_le_pow_right (by decide) (by omega)
 have b2 : c * 2 ^ (r * 8) ≤ 255 * 2 ^ 56 := Nat.mul_le_mul (by omega) b1
 have e1 : (2 : Nat) ^ 56 = 72057594037927936 := by decide
 rw [e1] at b2
 unfold V
 rw [IntKind.wrap_u64, show ((c : Int) * 2 ^ (r * 8)) = ((c * 2 ^ (r * 8) : Nat) : Int) by rw [Int.natCast_mul, Int.natCast_pow]; rfl]
 omega
section
set_option maxRecDepth 100000 in
set_option maxHeartbeats 1000000 in
theorem ofBytes_any (l : List UInt8) (hl : l.length = 32) (w : World) :
  Calls Tryz.prog 89 #[.agg (l.map cv).toArray] w fun e w' => e = .returned (.agg (num4A (valLE l))) ∧ Below w.heap.size w w' := by
 have HL := hide hl
 clear hl
 obtain ⟨M, HM⟩ : ∃ M, Hid (M = (l.map cv).toArray) := ⟨_, rfl⟩
 rw [← HM.out]
 have HSz : Hid ((Tryz.prog.info? 61).map (·.size) = some M.size) := by show _ = _; rw [size32, HM.out]; simp [HL.out]
 go_enter Tryz.func89, Tryz.ntmps89
 go_wp2_with (first | (refine wpList_load_row (by rfl) 61 (.tmp 1) (by rfl) w.heap.size (by rfl) 61 M (0, 0) _ (heap3_0 _ _ _ _) under32 rfl HSz.out ?_))
 go_loopw [7] (fun i wr => ∃ k : Nat, k ≤ 32 ∧ i = .int .i64 k ∧ Hid (wr.heap[w.heap.size + 1]? = some (.cells zero4 60 (0, 0))) ∧ Hid (wr.heap[w.heap.size + 2]? = some (.cells (num4A (valLE (l.take k))) 60 (0, 0))) ∧ Hid (Below w.heap.size w wr)) (fun i _ => 32 - (intOf i).toNat)
 case atStart => exact ⟨0, Nat.zero_le _, rfl, heap3_1 _ _ _ _, by rw [List.take_zero]; show _ = _; rw [heap3_2]; rfl, by show Below _ _ _; go_grown⟩
 case round =>
  obtain ⟨k, hk, rfl, H1, H2, HB⟩ := hrel
  by_cases hlt : k < 32
  ·
   obtain ⟨q, hq⟩ : ∃ q, q = k / 8 := ⟨_, rfl⟩
   obtain ⟨r, hr⟩ : ∃ r, r = k % 8 := ⟨_, rfl⟩
   have e8 : (k : Int) / 8 = (q : Int) := by omega
   have er : (k : Int) % 8 = (r : Int) := by omega
   have bq : (q : Int) < 4 := by omega
   have br : (r : Int) < 8 := by omega
   have bk : (k : Int) < 32 := by omega
   obtain ⟨n, HNn⟩ : ∃ n, Hid (n = valLE (l.take k)) := ⟨_, rfl⟩
   rw [← HNn.out] at H2
   obtain ⟨c, HC⟩ : ∃ c, Hid (c = l.getD k 0) := ⟨_, rfl⟩
   have hidx := index32 l HL.out k hlt
   rw [← HC.out, ← HM.out] at hidx
   have hnl : n < 256 ^ (8 * q + r) := by
    have := valLE_bound (l.take k)
    rw [List.length_take, HL.out, Nat.min_eq_left (by omega), ← HNn.out] at this
    rw [show 8 * q + r = k by omega]; exact this
   obtain ⟨hx, hrow⟩ := wd_put n c.toNat q r hnl c.toNat_lt (by omega) (by omega)
   have hor := or_put (wd n q) c.toNat r hx c.toNat_lt (by omega)
   have hshl := V_shlr c.toNat r c.toNat_lt (by omega)
   have hcv : IntKind.u64.wrap (C8 c) = V c.toNat := by
    have := c.toNat_lt; unfold C8 V; rw [IntKind.wrap_u64]; omega
   have c2 := num4A_cell H2.out q (by omega)
   have f2 := frozen_of_row wr (w.heap.size + 2) q _ _ H2.out
   have HR : Hid (num4A (valLE (l.take (k + 1))) = ([nv (wd n 0), nv (wd n 1), nv (wd n 2), nv (wd n 3)].set q (nv (wd n q + c.toNat * 2 ^ (r * 8)))).toArray) := by
    show _ = _
    rw [← hrow, valLE_take l k (by rw [HL.out]; exact hlt), ← HC.out, HNn.out, show 8 * q + r = k by omega]
   obtain ⟨y, HY⟩ : ∃ y, Hid (y = c.toNat * 2 ^ (r * 8)) := ⟨_, rfl⟩
   rw [← HY.out] at hor hshl HR
   clear hx hrow hnl hq hr
   go_wp2_with fail
   go_region
   go_wp2_with fail
   refine ⟨⟨k + 1, by omega, by go_num, far_set _ _ H1.out (by omega), ?_, (HB.out.setCell (by show _ ≤ _; simp; omega) _).drew⟩, by simp [intOf]; omega⟩
   rw [HR.out]
   exact row_store (cs := [nv (wd n 0), nv (wd n 1), nv (wd n 2), nv (wd n 3)]) H2.out q _
  ·
   obtain rfl : k = 32 := by omega
   have bk : (32 : Int) ≤ ((32 : Nat) : Int) := by omega
   obtain ⟨n, HNn⟩ : ∃ n, Hid (n = valLE l) := ⟨_, rfl⟩
   have H2' : Hid (wr.heap[w.heap.size + 2]? = some (.cells (num4A n) 60 (0, 0))) := by
    have e := H2.out; rw [List.take_of_length_le (by rw [HL.out]; exact Nat.le_refl _), ← HNn.out] at e; exact e
   clear H2 hlt hk
   go_wp2_with (first
    | (refine wpList_load_row (by rfl) 60 (.tmp 3) (by rfl) (w.heap.size + 2) (by rfl) 60 (num4A n) (0, 0) _ H2'.out under4 rfl size4 ?_)
    | (refine wpList_store_row (by rfl) 60 (.tmp 2) (.tmp 24) (by rfl) (w.heap.size + 1) (num4A n) (by rfl) (by rfl) 60 _ H1.out size4 rfl (num4A_all _) ?_))
   refine bodyPost_ret (v := .agg (num4A n)) (results_cell_row Tryz.results89 _ _ (w.heap.size + 1) 60 (num4A n) (0, 0) _ (by rfl) (setRow_heap _ _ _ _ _ _ H1.out) under4 rfl size4) rfl ⟨by rw [HNn.out], below_setRow HB.out (by omega) _⟩
end
theorem ofBytes_list (l : List UInt8) (hl : l.length = 32) (M : Array Value) (hM : M = (l.map cv).toArray) (w : World) :
  Calls Tryz.prog 89 #[.agg M] w fun e w' => e = .returned (.agg (num4A (valLE l))) ∧ Below w.heap.size w w' := by
 rw [hM]; exact ofBytes_any l hl w
theorem setRow_size (w : World) (g : Nat) (cs : Array Value) : (w.setRow g cs).heap.size = w.heap.size := by simp [World.setRow]
def ofbV (n : Nat) : Nat := if n < P then n else 0
def ofbB (n : Nat) : Bool := decide (n < P)
theorem ofbV_lt (n : Nat) : ofbV n < P := by
 unfold ofbV; split
 · assumption
 · exact P_pos
theorem subA (a b : Nat) (ha : a < 115792089237316195423570985008687907853269984665640564039457584007913129639936) (hb : b < 115792089237316195423570985008687907853269984665640564039457584007913129639936) (w : World) :
  Calls Tryz.prog 123 #[.agg (num4A a), .agg (num4A b)] w fun e w' => ∃ d, e = .returned (.tuple #[.agg (num4A d), nv (ltN a b)]) ∧ Below w.heap.size w w' := by
 have := sub_any a b ha hb w
 rw [num4_A, num4_A, num4_A] at this
 exact this.mono fun e w' h => ⟨_, h.1, h.2⟩
section
set_option maxRecDepth 100000 in
set_option maxHeartbeats 1000000 in
theorem feOfBytes (l : List UInt8) (hl : l.length = 32) (T3 : TypeId) (fr3 : Nat × Nat) (w : World) (hG : w.heap[10]? = some (.cells (num4A P) T3 fr3)) :
  Calls Tryz.prog 149 #[.agg (l.map cv).toArray] w fun e w' => e = .returned (.tuple #[fe (ofbV (valLE l)), .bool (ofbB (valLE l))]) ∧ Below w.heap.size w w' := by
 have HL := hide hl
 have HG := hide hG
 have h3 := lt_of_row hG
 have hb := valLE_bound l
 rw [hl] at hb
 clear hl hG
 obtain ⟨M, HM⟩ : ∃ M, Hid (M = (l.map cv).toArray) := ⟨_, rfl⟩
 rw [← HM.out]
 have HSz : Hid ((Tryz.prog.info? 61).map (·.size) = some M.size) := by show _ = _; rw [size32, HM.out]; simp [HL.out]
 obtain ⟨n, HN⟩ : ∃ n, Hid (n = valLE l) := ⟨_, rfl⟩
 have Hb : Hid (n < 115792089237316195423570985008687907853269984665640564039457584007913129639936) := by rw [HN.out]; exact hb
 rw [← HN.out]
 clear hb
 go_enter Tryz.func149, Tryz.ntmps149
 go_wp2_with (first | (refine wpList_load_row (by rfl) 61 (.tmp 1) (by rfl) w.heap.size (by rfl) 61 M (0, 0) _ ((heap_alloc_old _ _ (by simp)).trans (heap_alloc_new _ _)) under32 rfl HSz.out ?_))
 refine (ofBytes_list l HL.out M HM.out _).mono ?_
 rintro e W1 ⟨rfl, hB⟩
 rw [← HN.out]
 have hz := hB.size
 simp only [World.size_alloc] at hB hz
 have HR : Hid (W1.heap[w.heap.size + 1]? = some (.cells zero4 80 (0, 0))) := (hB.block _ (by omega)).trans (heap_alloc2_new _ _ _)
 have HB : Hid (Below w.heap.size w W1) := (((Below.refl _ w).alloc (Nat.le_refl _) _).alloc (by simp) _).trans (hB.mono (by omega))
 have HG1 := hide (row_below HG.out HB.out h3)
 clear hB
 go_wp2_with (first
  | (refine wpList_store_row (by rfl) 80 (.tmp 4) (.tmp 8) (by rfl) W1.heap.size (num4A n) (by rfl) (by rfl) 80 _ (heap_alloc_new _ _) (feSize _) rfl (num4A_all _) ?_)
  | (refine wpList_load_row (by rfl) 80 (.tmp 4) (by rfl) W1.heap.size (by rfl) 80 (num4A n) (0, 0) _ (setRow_heap _ _ _ _ _ _ (heap_alloc_new _ _)) under33 rfl (feSize _) ?_)
  | (refine wpList_load_row (by rfl) 80 (.global 10) (by rfl) 10 (by rfl) T3 (num4A P) fr3 _ ((setRow_other _ _ _ _ (by omega)).trans ((heap_alloc_old _ _ (by omega)).trans HG1.out)) under33 rfl (feSize _) ?_))
 refine (subA n P Hb.out (by decide) _).mono ?_
 rintro e W2 ⟨d, rfl, hB2⟩
 have hz2 := hB2.size
 simp only [World.size_alloc, setRow_size] at hB2 hz2
 have HB2 : Hid (Below w.heap.size w W2) := (below_setRow (HB.out.alloc HB.out.size _) HB.out.size _).trans (hB2.mono (by omega))
 have HR2 : Hid (W2.heap[w.heap.size + 1]? = some (.cells zero4 80 (0, 0))) := (hB2.block _ (by omega)).trans ((setRow_other _ _ _ _ (by omega)).trans ((heap_alloc_old _ _ (by omega)).trans HR.out))
 have HN2 : Hid (W2.heap[W1.heap.size]? = some (.cells (num4A n) 80 (0, 0))) := (hB2.block _ (by omega)).trans (setRow_heap _ _ _ _ _ _ (heap_alloc_new _ _))
 clear hB2
 by_cases hlt : n < P
 ·
  have hv : V (ltN n P) = 1 := by unfold ltN; rw [if_pos hlt]; rfl
  have HE : Hid (ofbV n = n ∧ ofbB n = true) := ⟨by unfold ofbV; rw [if_pos hlt], by unfold ofbB; exact decide_eq_true hlt⟩
  clear hlt
  go_wp2_with (first
   | (refine wpList_store_row (by rfl) 60 (.tmp 5) (.tmp 13) (by rfl) W2.heap.size (num4A d) (by rfl) (by rfl) 60 _ (heap_alloc_new _ _) size4 rfl (num4A_all _) ?_)
   | (refine wpList_load_row (by rfl) 80 (.tmp 4) (by rfl) W1.heap.size (by rfl) 80 (num4A n) (0, 0) _ ((setRow_other _ _ _ _ (by omega)).trans ((heap_alloc_old _ _ (by omega)).trans HN2.out)) under33 rfl (feSize _) ?_)
   | (refine wpList_store_row (by rfl) 80 (.tmp 2) (.tmp 18) (by rfl) (w.heap.size + 1) (num4A n) (by rfl) (by rfl) 80 _ ((setRow_other _ _ _ _ (by omega)).trans ((heap_alloc_old _ _ (by omega)).trans HR2.out)) (feSize _) rfl (num4A_all _) ?_))
  refine bodyPost_ret (v := .tuple #[fe n, .bool true]) (results_cell_tmp_row Tryz.results149 _ _ (w.heap.size + 1) 80 (num4A n) (0, 0) _ (by rfl) (setRow_heap _ _ _ _ _ _ ((setRow_other _ _ _ _ (by omega)).trans ((heap_alloc_old _ _ (by omega)).trans HR2.out))) under33 rfl (feSize _)) rfl ⟨by rw [HE.out.1, HE.out.2], below_setRow (below_setRow (HB2.out.alloc HB2.out.size _) HB2.out.size _) (by omega) _⟩
 ·
  have hv : V (ltN n P) = 0 := by unfold ltN; rw [if_neg hlt]; rfl
  have HE : Hid (ofbV n = 0 ∧ ofbB n = false) := ⟨by unfold ofbV; rw [if_neg hlt], by unfold ofbB; exact decide_eq_false hlt⟩
  clear hlt
  go_wp2_with (first
   | (refine wpList_store_row (by rfl) 60 (.tmp 5) (.tmp 13) (by rfl) W2.heap.size (num4A d) (by rfl) (by rfl) 60 _ (heap_alloc_new _ _) size4 rfl (num4A_all _) ?_)
   | (refine wpList_store_row (by rfl) 80 (.tmp 2) (.tmp 17) (by rfl) (w.heap.size + 1) zero4 (by rfl) (by rfl) 80 _ ((setRow_other _ _ _ _ (by omega)).trans ((heap_alloc_old _ _ (by omega)).trans HR2.out)) size33 rfl zero4_all ?_))
  refine bodyPost_ret (v := .tuple #[.agg zero4, .bool false]) (results_cell_tmp_row Tryz.results149 _ _ (w.heap.size + 1) 80 zero4 (0, 0) _ (by rfl) (setRow_heap _ _ _ _ _ _ ((setRow_other _ _ _ _ (by omega)).trans ((heap_alloc_old _ _ (by omega)).trans HR2.out))) under33 rfl size33) rfl ⟨?_, below_setRow (below_setRow (HB2.out.alloc HB2.out.size _) HB2.out.size _) (by omega) _⟩
  rw [HE.out.1, HE.out.2]
  show Ending.returned (.tuple #[.agg zero4, .bool false]) = .returned (.tuple #[.agg (num4A 0), .bool false])
  rw [num4A_zero]
end
end Go.Proofs.YtccgfabojbjmjaaGreatDoor
