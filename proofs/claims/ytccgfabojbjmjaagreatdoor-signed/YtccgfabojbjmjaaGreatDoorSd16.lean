import Derived.Test.YtccgfabojbjmjaaGreatDoorSd13
import Derived.BigRegion
import Derived.Test.YtccgfabojbjmjaaGreatDoorSd15
import Derived.ChangeKeysEq
import Derived.Laws.ResultCell
import Derived.Test.YtccgfabojbjmjaaGreatDoorRows
import Derived.WalkSpells
import Derived.WalkLawsBesides
namespace Go.Proofs.YtccgfabojbjmjaaGreatDoor
open Go.RowKit
theorem sizeOf8 : (Tryz.prog.info? 5).map (·.size) = some 1 := by kernel_rfl
theorem under8' : Tryz.prog.underlying 5 = some (.int .u8) := by kernel_rfl
theorem part8 (xs : Array Value) (i : Nat) (v : Value) (h : xs[i]? = some v) (w : World) : (part 5 xs i).run Tryz.prog w = .ok v w := by
 cases hq : Tryz.prog.info? 5 with
 | none => have := sizeOf8; rw [hq] at this; cases this
 | some inf =>
  have hi : inf.size = 1 := by have := sizeOf8; rw [hq] at this; simpa using this
  simp [part, sizeOf, typeInfo, hq, hi, h]
theorem index32 (l : List UInt8) (hl : l.length = 32) (i : Nat) (hi : i < 32) (w : World) :
  (Instr.index 61 (.agg (l.map cv).toArray) (.int .i64 i)).run Tryz.prog w = .ok (cv (l.getD i 0)) w := by
 cases hq : Tryz.prog.info? 5 with
 | none => have := sizeOf8; rw [hq] at this; cases this
 | some inf =>
  have hs : inf.size = 1 := by have := sizeOf8; rw [hq] at this; simpa using this
  have h0 : (l.map cv).toArray[i]? = some (cv (l.getD i 0)) := by simp [hl, hi]
  simp [Instr.index, asIntOf, run_underlying under32, sizeOf, typeInfo, hq, hs, part8 _ i _ h0]
  intro h; omega
theorem wd_put (n c q r : Nat) (hn : n < 256 ^ (8 * q + r)) (hc : c < 256) (hq : q < 4) (hr : r < 8) :
  wd n q < 2 ^ (r * 8) ∧ num4A (n + c * 256 ^ (8 * q + r)) = ([nv (wd n 0), nv (wd n 1), nv (wd n 2), nv (wd n 3)].set q (nv (wd n q + c * 2 ^ (r * 8)))).toArray := by
 have h4 : q = 0 ∨ q = 1 ∨ q = 2 ∨ q = 3 := by omega
 have h8 : r = 0 ∨ r = 1 ∨ r = 2 ∨ r = 3 ∨ r = 4 ∨ r = 5 ∨ r = 6 ∨ r = 7 := by omega
 have key : wd n q < 2 ^ (r * 8) ∧ wd (n + c * 256 ^ (8 * q + r)) q = wd n q + c * 2 ^ (r * 8) ∧ (∀ p, p < 4 → p ≠ q → wd (n + c * 256 ^ (8 * q + r)) p = wd n p) := by
  refine ⟨?_, ?_, ?_⟩
  ·
   unfold wd
   rcases h4 with rfl | rfl | rfl | rfl <;> rcases h8 with rfl | rfl | rfl | rfl | rfl | rfl | rfl | rfl <;> simp only [Nat.reducePow, Nat.reduceMul, Nat.reduceAdd, Nat.pow_zero, Nat.div_one] at * <;> omega
  ·
   unfold wd
   rcases h4 with rfl | rfl | rfl | rfl <;> rcases h8 with rfl | rfl | rfl | rfl | rfl | rfl | rfl | rfl <;> simp only [Nat.reducePow, Nat.reduceMul, Nat.reduceAdd, Nat.pow_zero, Nat.div_one] at * <;> omega
  ·
   intro p hp hpq
   have hp4 : p = 0 ∨ p = 1 ∨ p = 2 ∨ p = 3 := by omega
   unfold wd
   rcases h4 with rfl | rfl | rfl | rfl <;> rcases hp4 with rfl | rfl | rfl | rfl <;> first | omega | (rcases h8 with rfl | rfl | rfl | rfl | rfl | rfl | rfl | rfl <;> simp only [Nat.reducePow, Nat.reduceMul, Nat.reduceAdd, Nat.pow_zero, Nat.div_one] at * <;> omega)
 obtain ⟨k0, k1, k2⟩ := key
 refine ⟨k0, ?_⟩
 unfold num4A
 rcases h4 with rfl | rfl | rfl | rfl
 · rw [k1, k2 1 (by decide) (by decide), k2 2 (by decide) (by decide), k2 3 (by decide) (by decide)]; rfl
 · rw [k1, k2 0 (by decide) (by decide), k2 2 (by decide) (by decide), k2 3 (by decide) (by decide)]; rfl
 · rw [k1, k2 0 (by decide) (by decide), k2 1 (by decide) (by decide), k2 3 (by decide) (by decide)]; rfl
 · rw [k1, k2 0 (by decide) (by decide), k2 1 (by decide) (by decide), k2 2 (by decide) (by decide)]; rfl
theorem valLE_take (l : List UInt8) (k : Nat) (hk : k < l.length) : valLE (l.take (k + 1)) = valLE (l.take k) + (l.getD k 0).toNat * 256 ^ k := by
 induction l generalizing k with
 | nil => simp at hk
 | cons c l ih => cases k with
  | zero => simp [valLE]
  | succ k =>
   have := ih k (by simpa using hk)
   simp only [List.take_succ_cons, valLE, List.getD_cons_succ] at *
   rw [this, Nat.pow_succ, Nat.mul_add]
   rw [Nat.mul_comm (256 ^ k) 256, Nat.mul_left_comm]; omega
theorem valLE_bound (l : List UInt8) : valLE l < 256 ^ l.length := by
 induction l with
 | nil => simp [valLE]
 | cons c l ih =>
  have := c.toNat_lt
  simp only [valLE, List.length_cons, Nat.pow_succ]
  omega
theorem far_set {w : World} {g g' : Nat} {o : Obj} (i : Nat) (v : Value) (h : w.heap[g]? = some o) (hne : g ≠ g') : (w.setCell ⟨g', i, none⟩ v).drew.heap[g]? = some o :=
 (Below.heap_setCell w _ v g hne).trans h
theorem or_put (x y r : Nat) (hx : x < 2 ^ (r * 8)) (hy : y < 256) (hr : r < 8) : bits .or .u64 (V x) (V (y * 2 ^ (r * 8))) = V (x + y * 2 ^ (r * 8)) := by
 have b1 : 2 ^ (r * 8) ≤ 2 ^ 56 := Nat.pow_le_pow_right (by decide) (by omega)
 have b2 : y * 2 ^ (r * 8) ≤ 255 * 2 ^ 56 := Nat.mul_le_mul (by omega) b1
 have e1 : (2 : Nat) ^ 56 = 72057594037927936 := by decide
 rw [e1] at b1 b2
 unfold V
 rw [bits_or_u64_nat _ _ (by omega) (by omega)]
 congr 1
 rw [Nat.or_comm, Nat.add_comm, Nat.mul_comm]
 exact (Nat.two_pow_add_eq_or_of_lt hx y).symm
theorem V_shlr (c r : Nat) (hc : c < 256) (hr : r < 8) : IntKind.u64.wrap (V c * 2 ^ (r * 8)) = V (c * 2 ^ (r * 8)) := by
 have b1 : 2 ^ (r * 8) ≤ 2 ^ 56 := Nat.pow_le_pow_right (by decide) (by omega)
 have b2 : c * 2 ^ (r * 8) ≤ 255 * 2 ^ 56 := Nat.mul_le_mul (by omega) b1
 have e1 : (2 : Nat) ^ 56 = 72057594037927936 := by decide
 rw [e1] at b2
 unfold V
 rw [IntKind.wrap_u64, show ((c : Int) * 2 ^ (r * 8)) = ((c * 2 ^ (r * 8) : Nat) : Int) by rw [Int.natCast_mul, Int.natCast_pow]; rfl]
 omega
section
set_option maxRecDepth 100000 in
set_option maxHeartbeats 1000000 in
theorem ofBytes_any (l : List UInt8) (hl : l.length = 32) (w : World) :
  Calls Tryz.prog 89 #[.agg (l.map cv).toArray] w fun e w' => e = .returned (.agg (num4A (valLE l))) ∧ Below w.heap.size w w' := by
 have HL := hide hl
 clear hl
 obtain ⟨M, HM⟩ : ∃ M, Hid (M = (l.map cv).toArray) := ⟨_, rfl⟩
 rw [← HM.out]
 have HSz : Hid ((Tryz.prog.info? 61).map (·.size) = some M.size) := by show _ = _; rw [size32, HM.out]; simp [HL.out]
 go_enter Tryz.func89, Tryz.ntmps89
 go_wp2_with (first | (refine wpList_load_row (by rfl) 61 (.tmp 1) (by rfl) w.heap.size (by rfl) 61 M (0, 0) _ (heap3_0 _ _ _ _) under32 rfl HSz.out ?_))
 go_loopw [7] (fun i wr => ∃ k : Nat, k ≤ 32 ∧ i = .int .i64 k ∧ Hid (wr.heap[w.heap.size + 1]? = some (.cells zero4 60 (0, 0))) ∧ Hid (wr.heap[w.heap.size + 2]? = some (.cells (num4A (valLE (l.take k))) 60 (0, 0))) ∧ Hid (Below w.heap.size w wr)) (fun i _ => 32 - (intOf i).toNat)
 case atStart => exact ⟨0, Nat.zero_le _, rfl, heap3_1 _ _ _ _, by rw [List.take_zero]; show _ = _; rw [heap3_2]; rfl, by show Below _ _ _; go_grown⟩
 case round =>
  obtain ⟨k, hk, rfl, H1, H2, HB⟩ := hrel
  by_cases hlt : k < 32
  ·
   obtain ⟨q, hq⟩ : ∃ q, q = k / 8 := ⟨_, rfl⟩
   obtain ⟨r, hr⟩ : ∃ r, r = k % 8 := ⟨_, rfl⟩
   have e8 : (k : Int) / 8 = (q : Int) := by omega
   have er : (k : Int) % 8 = (r : Int) := by omega
   have bq : (q : Int) < 4 := by omega
   have br : (r : Int) < 8 := by omega
   have bk : (k : Int) < 32 := by omega
   obtain ⟨n, HNn⟩ : ∃ n, Hid (n = valLE (l.take k)) := ⟨_, rfl⟩
   rw [← HNn.out] at H2
   obtain ⟨c, HC⟩ : ∃ c, Hid (c = l.getD k 0) := ⟨_, rfl⟩
   have hidx := index32 l HL.out k hlt
   rw [← HC.out, ← HM.out] at hidx
   have hnl : n < 256 ^ (8 * q + r) := by
    have := valLE_bound (l.take k)
    rw [List.length_take, HL.out, Nat.min_eq_left (by omega), ← HNn.out] at this
    rw [show 8 * q + r = k by omega]; exact this
   obtain ⟨hx, hrow⟩ := wd_put n c.toNat q r hnl c.toNat_lt (by omega) (by omega)
   have hor := or_put (wd n q) c.toNat r hx c.toNat_lt (by omega)
   have hshl := V_shlr c.toNat r c.toNat_lt (by omega)
   have hcv : IntKind.u64.wrap (C8 c) = V c.toNat := by
    have := c.toNat_lt; unfold C8 V; rw [IntKind.wrap_u64]; omega
   have c2 := num4A_cell H2.out q (by omega)
   have f2 := frozen_of_row wr (w.heap.size + 2) q _ _ H2.out
   have HR : Hid (num4A (valLE (l.take (k + 1))) = ([nv (wd n 0), nv (wd n 1), nv (wd n 2), nv (wd n 3)].set q (nv (wd n q + c.toNat * 2 ^ (r * 8)))).toArray) := by
    show _ = _
    rw [← hrow, valLE_take l k (by rw [HL.out]; exact hlt), ← HC.out, HNn.out, show 8 * q + r = k by omega]
   obtain ⟨y, HY⟩ : ∃ y, Hid (y = c.toNat * 2 ^ (r * 8)) := ⟨_, rfl⟩
   rw [← HY.out] at hor hshl HR
   clear hx hrow hnl hq hr
   go_wp2_with fail
   go_region
   go_wp2_with fail
   refine ⟨⟨k + 1, by omega, by go_num, far_set _ _ H1.out (by omega), ?_, (HB.out.setCell (by show _ ≤ _; simp; omega) _).drew⟩, by simp [intOf]; omega⟩
   rw [HR.out]
   exact row_store (cs := [nv (wd n 0), nv (wd n 1), nv (wd n 2), nv (wd n 3)]) H2.out q _
  ·
   obtain rfl : k = 32 := by omega
   have bk : (32 : Int) ≤ ((32 : Nat) : Int) := by omega
   obtain ⟨n, HNn⟩ : ∃ n, Hid (n = valLE l) := ⟨_, rfl⟩
   have H2' : Hid (wr.heap[w.heap.size + 2]? = some (.cells (num4A n) 60 (0, 0))) := by
    have e := H2.out; rw [List.take_of_length_le (by rw [HL.out]; exact Nat.le_refl _), ← HNn.out] at e; exact e
   clear H2 hlt hk
   go_wp2_with (first
    | (refine wpList_load_row (by rfl) 60 (.tmp 3) (by rfl) (w.heap.size + 2) (by rfl) 60 (num4A n) (0, 0) _ H2'.out under4 rfl size4 ?_)
    | (refine wpList_store_row (by rfl) 60 (.tmp 2) (.tmp 24) (by rfl) (w.heap.size + 1) (num4A n) (by rfl) (by rfl) 60 _ H1.out size4 rfl (num4A_all _) ?_))
   refine bodyPost_ret (v := .agg (num4A n)) (results_cell_row Tryz.results89 _ _ (w.heap.size + 1) 60 (num4A n) (0, 0) _ (by rfl) (setRow_heap _ _ _ _ _ _ H1.out) under4 rfl size4) rfl ⟨by rw [HNn.out], below_setRow HB.out (by omega) _⟩
end
theorem ofBytes_list (l : List UInt8) (hl : l.length = 32) (M : Array Value) (hM : M = (l.map cv).toArray) (w : World) :
  Calls Tryz.prog 89 #[.agg M] w fun e w' => e = .returned (.agg (num4A (valLE l))) ∧ Below w.heap.size w w' := by
 rw [hM]; exact ofBytes_any l hl w
theorem setRow_size (w : World) (g : Nat) (cs : Array Value) : (w.setRow g cs).heap.size = w.heap.size := by simp [World.setRow]
def ofbV (n : Nat) : Nat := if n < P then n else 0
def ofbB (n : Nat) : Bool := decide (n < P)
theorem ofbV_lt (n : Nat) : ofbV n < P := by
 unfold ofbV; split
 · assumption
 · exact P_pos
theorem subA (a b : Nat) (ha : a < 115792089237316195423570985008687907853269984665640564039457584007913129639936) (hb : b < 115792089237316195423570985008687907853269984665640564039457584007913129639936) (w : World) :
  Calls Tryz.prog 123 #[.agg (num4A a), .agg (num4A b)] w fun e w' => ∃ d, e = .returned (.tuple #[.agg (num4A d), nv (ltN a b)]) ∧ Below w.heap.size w w' := by
 have := sub_any a b ha hb w
 rw [num4_A, num4_A, num4_A] at this
 exact this.mono fun e w' h => ⟨_, h.1, h.2⟩
section
set_option maxRecDepth 100000 in
set_option maxHeartbeats 1000000 in
theorem feOfBytes (l : List UInt8) (hl : l.length = 32) (T3 : TypeId) (fr3 : Nat × Nat) (w : World) (hG : w.heap[10]? = some (.cells (num4A P) T3 fr3)) :
  Calls Tryz.prog 149 #[.agg (l.map cv).toArray] w fun e w' => e = .returned (.tuple #[fe (ofbV (valLE l)), .bool (ofbB (valLE l))]) ∧ Below w.heap.size w w' := by
 have HL := hide hl
 have HG := hide hG
 have h3 := lt_of_row hG
 have hb := valLE_bound l
 rw [hl] at hb
 clear hl hG
 obtain ⟨M, HM⟩ : ∃ M, Hid (M = (l.map cv).toArray) := ⟨_, rfl⟩
 rw [← HM.out]
 have HSz : Hid ((Tryz.prog.info? 61).map (·.size) = some M.size) := by show _ = _; rw [size32, HM.out]; simp [HL.out]
 obtain ⟨n, HN⟩ : ∃ n, Hid (n = valLE l) := ⟨_, rfl⟩
 have Hb : Hid (n < 115792089237316195423570985008687907853269984665640564039457584007913129639936) := by rw [HN.out]; exact hb
 rw [← HN.out]
 clear hb
 go_enter Tryz.func149, Tryz.ntmps149
 go_wp2_with (first | (refine wpList_load_row (by rfl) 61 (.tmp 1) (by rfl) w.heap.size (by rfl) 61 M (0, 0) _ ((heap_alloc_old _ _ (by simp)).trans (heap_alloc_new _ _)) under32 rfl HSz.out ?_))
 refine (ofBytes_list l HL.out M HM.out _).mono ?_
 rintro e W1 ⟨rfl, hB⟩
 rw [← HN.out]
 have hz := hB.size
 simp only [World.size_alloc] at hB hz
 have HR : Hid (W1.heap[w.heap.size + 1]? = some (.cells zero4 80 (0, 0))) := (hB.block _ (by omega)).trans (heap_alloc2_new _ _ _)
 have HB : Hid (Below w.heap.size w W1) := (((Below.refl _ w).alloc (Nat.le_refl _) _).alloc (by simp) _).trans (hB.mono (by omega))
 have HG1 := hide (row_below HG.out HB.out h3)
 clear hB
 go_wp2_with (first
  | (refine wpList_store_row (by rfl) 80 (.tmp 4) (.tmp 8) (by rfl) W1.heap.size (num4A n) (by rfl) (by rfl) 80 _ (heap_alloc_new _ _) (feSize _) rfl (num4A_all _) ?_)
  | (refine wpList_load_row (by rfl) 80 (.tmp 4) (by rfl) W1.heap.size (by rfl) 80 (num4A n) (0, 0) _ (setRow_heap _ _ _ _ _ _ (heap_alloc_new _ _)) under33 rfl (feSize _) ?_)
  | (refine wpList_load_row (by rfl) 80 (.global 10) (by rfl) 10 (by rfl) T3 (num4A P) fr3 _ ((setRow_other _ _ _ _ (by omega)).trans ((heap_alloc_old _ _ (by omega)).trans HG1.out)) under33 rfl (feSize _) ?_))
 refine (subA n P Hb.out (by decide) _).mono ?_
 rintro e W2 ⟨d, rfl, hB2⟩
 have hz2 := hB2.size
 simp only [World.size_alloc, setRow_size] at hB2 hz2
 have HB2 : Hid (Below w.heap.size w W2) := (below_setRow (HB.out.alloc HB.out.size _) HB.out.size _).trans (hB2.mono (by omega))
 have HR2 : Hid (W2.heap[w.heap.size + 1]? = some (.cells zero4 80 (0, 0))) := (hB2.block _ (by omega)).trans ((setRow_other _ _ _ _ (by omega)).trans ((heap_alloc_old _ _ (by omega)).trans HR.out))
 have HN2 : Hid (W2.heap[W1.heap.size]? = some (.cells (num4A n) 80 (0, 0))) := (hB2.block _ (by omega)).trans (setRow_heap _ _ _ _ _ _ (heap_alloc_new _ _))
 clear hB2
 by_cases hlt : n < P
 ·
  have hv : V (ltN n P) = 1 := by unfold ltN; rw [if_pos hlt]; rfl
  have HE : Hid (ofbV n = n ∧ ofbB n = true) := ⟨by unfold ofbV; rw [if_pos hlt], by unfold ofbB; exact decide_eq_true hlt⟩
  clear hlt
  go_wp2_with (first
   | (refine wpList_store_row (by rfl) 60 (.tmp 5) (.tmp 13) (by rfl) W2.heap.size (num4A d) (by rfl) (by rfl) 60 _ (heap_alloc_new _ _) size4 rfl (num4A_all _) ?_)
   | (refine wpList_load_row (by rfl) 80 (.tmp 4) (by rfl) W1.heap.size (by rfl) 80 (num4A n) (0, 0) _ ((setRow_other _ _ _ _ (by omega)).trans ((heap_alloc_old _ _ (by omega)).trans HN2.out)) under33 rfl (feSize _) ?_)
   | (refine wpList_store_row (by rfl) 80 (.tmp 2) (.tmp 18) (by rfl) (w.heap.size + 1) (num4A n) (by rfl) (by rfl) 80 _ ((setRow_other _ _ _ _ (by omega)).trans ((heap_alloc_old _ _ (by omega)).trans HR2.out)) (feSize _) rfl (num4A_all _) ?_))
  refine bodyPost_ret (v := .tuple #[fe n, .bool true]) (results_cell_tmp_row Tryz.results149 _ _ (w.heap.size + 1) 80 (num4A n) (0, 0) _ (by rfl) (setRow_heap _ _ _ _ _ _ ((setRow_other _ _ _ _ (by omega)).trans ((heap_alloc_old _ _ (by omega)).trans HR2.out))) under33 rfl (feSize _)) rfl ⟨by rw [HE.out.1, HE.out.2], below_setRow (below_setRow (HB2.out.alloc HB2.out.size _) HB2.out.size _) (by omega) _⟩
 ·
  have hv : V (ltN n P) = 0 := by unfold ltN; rw [if_neg hlt]; rfl
  have HE : Hid (ofbV n = 0 ∧ ofbB n = false) := ⟨by unfold ofbV; rw [if_neg hlt], by unfold ofbB; exact decide_eq_false hlt⟩
  clear hlt
  go_wp2_with (first
   | (refine wpList_store_row (by rfl) 60 (.tmp 5) (.tmp 13) (by rfl) W2.heap.size (num4A d) (by rfl) (by rfl) 60 _ (heap_alloc_new _ _) size4 rfl (num4A_all _) ?_)
   | (refine wpList_store_row (by rfl) 80 (.tmp 2) (.tmp 17) (by rfl) (w.heap.size + 1) zero4 (by rfl) (by rfl) 80 _ ((setRow_other _ _ _ _ (by omega)).trans ((heap_alloc_old _ _ (by omega)).trans HR2.out)) size33 rfl zero4_all ?_))
  refine bodyPost_ret (v := .tuple #[.agg zero4, .bool false]) (results_cell_tmp_row Tryz.results149 _ _ (w.heap.size + 1) 80 zero4 (0, 0) _ (by rfl) (setRow_heap _ _ _ _ _ _ ((setRow_other _ _ _ _ (by omega)).trans ((heap_alloc_old _ _ (by omega)).trans HR2.out))) under33 rfl size33) rfl ⟨?_, below_setRow (below_setRow (HB2.out.alloc HB2.out.size _) HB2.out.size _) (by omega) _⟩
  rw [HE.out.1, HE.out.2]
  show Ending.returned (.tuple #[.agg zero4, .bool false]) = .returned (.tuple #[.agg (num4A 0), .bool false])
  rw [num4A_zero]
end
def chooseW (x y z : BitVec 64) : BitVec 64 := x &&& y ^^^ ~~~x &&& z
def majorityW (x y z : BitVec 64) : BitVec 64 := x &&& y ^^^ x &&& z ^^^ y &&& z
def bigSigma0W (x : BitVec 64) : BitVec 64 := x.rotateRight 28 ^^^ x.rotateRight 34 ^^^ x.rotateRight 39
def bigSigma1W (x : BitVec 64) : BitVec 64 := x.rotateRight 14 ^^^ x.rotateRight 18 ^^^ x.rotateRight 41
def smallSigma0W (x : BitVec 64) : BitVec 64 := x.rotateRight 1 ^^^ x.rotateRight 8 ^^^ x >>> 7
def smallSigma1W (x : BitVec 64) : BitVec 64 := x.rotateRight 19 ^^^ x.rotateRight 61 ^^^ x >>> 6
section
attribute [local go_sem] U_and U_or U_xor U_not U_add
set_option maxRecDepth 100000 in
set_option maxHeartbeats 400000 in
theorem choose_any (x y z : BitVec 64) (w : World) :
  Calls Tryz.prog 155 #[.int .u64 (U x), .int .u64 (U y), .int .u64 (U z)] w fun e w' => e = .returned (.int .u64 (U (chooseW x y z))) ∧ w' = w := by
 go_enter Tryz.func155, Tryz.ntmps155
 go_wp2
 go_ret
 exact ⟨rfl, rfl⟩
set_option maxRecDepth 100000 in
set_option maxHeartbeats 400000 in
theorem majority_any (x y z : BitVec 64) (w : World) :
  Calls Tryz.prog 157 #[.int .u64 (U x), .int .u64 (U y), .int .u64 (U z)] w fun e w' => e = .returned (.int .u64 (U (majorityW x y z))) ∧ w' = w := by
 go_enter Tryz.func157, Tryz.ntmps157
 go_wp2
 go_ret
 exact ⟨rfl, rfl⟩
theorem and_neg (n : Nat) (h0 : 0 < n) (h1 : n < 64) : bits .and .u64 (IntKind.u64.wrap (-(n : Int))) 63 = ((64 - n : Nat) : Int) := by
 have e : ∀ k : Fin 64, 0 < k.val → bits .and .u64 (IntKind.u64.wrap (-(k.val : Int))) 63 = ((64 - k.val : Nat) : Int) := by decide
 exact e ⟨n, h1⟩ h0
theorem rot_eq (x : BitVec 64) (n : Nat) (h1 : n < 64) : x <<< (64 - n) ||| x >>> n = x.rotateRight n := by
 rw [BitVec.rotateRight_def, Nat.mod_eq_of_lt h1, BitVec.or_comm]
set_option maxRecDepth 100000 in
set_option maxHeartbeats 400000 in
theorem rot_any (x : BitVec 64) (n : Nat) (h0 : 0 < n) (h1 : n < 64) (w : World) :
  Calls Tryz.prog 172 #[.int .u64 (U x), .int .i64 (-(n : Int))] w fun e w' => e = .returned (.int .u64 (U (x.rotateRight n))) ∧ w' = w := by
 have e := and_neg n h0 h1
 have hm : ((64 - n : Nat) : Int) = 64 - n := by omega
 rw [hm] at e
 have HF : Hid (bits BinOp.or IntKind.u64 (IntKind.u64.wrap (U x * 2 ^ (64 - n))) (U x / 2 ^ (64 - (64 - n))) = U (x.rotateRight n)) := by
  have h64 : 64 - (64 - n) = n := by omega
  show _ = _
  rw [h64, U_shl, U_shr, U_or, rot_eq x n h1]
 go_enter Tryz.func172, Tryz.ntmps172
 go_wp2
 go_ret
 exact ⟨congrArg (fun v => Ending.returned (.int .u64 v)) HF.out, rfl⟩
set_option maxRecDepth 100000 in
set_option maxHeartbeats 400000 in
theorem right_any (x : BitVec 64) (k : Int) (n : Nat) (hk : k = n) (h0 : 0 < n) (h1 : n < 64) (w : World) :
  Calls Tryz.prog 166 #[.int .u64 (U x), .int .i64 k] w fun e w' => e = .returned (.int .u64 (U (x.rotateRight n))) ∧ w' = w := by
 subst hk
 go_enter Tryz.func166, Tryz.ntmps166
 go_wp2_with (go_at_call 172; refine (rot_any x n h0 h1 _).mono ?_; rintro e w' ⟨rfl, rfl⟩)
 go_ret
 exact ⟨rfl, rfl⟩
set_option maxRecDepth 100000 in
set_option maxHeartbeats 400000 in
theorem bigSigma0_any (x : BitVec 64) (w : World) :
  Calls Tryz.prog 156 #[.int .u64 (U x)] w fun e w' => e = .returned (.int .u64 (U (bigSigma0W x))) ∧ w' = w := by
 go_enter Tryz.func156, Tryz.ntmps156
 go_wp2_with fail
 refine (right_any x 28 28 rfl (by omega) (by omega) _).mono ?_
 rintro e w' ⟨rfl, rfl⟩
 go_wp2_with fail
 refine (right_any x 34 34 rfl (by omega) (by omega) _).mono ?_
 rintro e w' ⟨rfl, rfl⟩
 go_wp2_with fail
 refine (right_any x 39 39 rfl (by omega) (by omega) _).mono ?_
 rintro e w' ⟨rfl, rfl⟩
 go_wp2
 go_ret
 exact ⟨rfl, rfl⟩
set_option maxRecDepth 100000 in
set_option maxHeartbeats 400000 in
theorem bigSigma1_any (x : BitVec 64) (w : World) :
  Calls Tryz.prog 154 #[.int .u64 (U x)] w fun e w' => e = .returned (.int .u64 (U (bigSigma1W x))) ∧ w' = w := by
 go_enter Tryz.func154, Tryz.ntmps154
 go_wp2_with fail
 refine (right_any x 14 14 rfl (by omega) (by omega) _).mono ?_
 rintro e w' ⟨rfl, rfl⟩
 go_wp2_with fail
 refine (right_any x 18 18 rfl (by omega) (by omega) _).mono ?_
 rintro e w' ⟨rfl, rfl⟩
 go_wp2_with fail
 refine (right_any x 41 41 rfl (by omega) (by omega) _).mono ?_
 rintro e w' ⟨rfl, rfl⟩
 go_wp2
 go_ret
 exact ⟨rfl, rfl⟩
theorem U_shr7 (a : BitVec 64) : U a / (128 : Int) = U (a >>> 7) := U_shr a 7
theorem U_shr6 (a : BitVec 64) : U a / (64 : Int) = U (a >>> 6) := U_shr a 6
theorem ret_u64 {a b : Int} (h : a = b) : Ending.returned (.int .u64 a) = .returned (.int .u64 b) := by rw [h]
set_option maxRecDepth 100000 in
set_option maxHeartbeats 400000 in
theorem smallSigma0_any (x : BitVec 64) (w : World) :
  Calls Tryz.prog 165 #[.int .u64 (U x)] w fun e w' => e = .returned (.int .u64 (U (smallSigma0W x))) ∧ w' = w := by
 go_enter Tryz.func165, Tryz.ntmps165
 go_wp2_with fail
 refine (right_any x 1 1 rfl (by omega) (by omega) _).mono ?_
 rintro e w' ⟨rfl, rfl⟩
 go_wp2_with fail
 refine (right_any x 8 8 rfl (by omega) (by omega) _).mono ?_
 rintro e w' ⟨rfl, rfl⟩
 go_wp2
 go_ret
 exact ⟨ret_u64 (by rw [U_shr7, U_xor]; rfl), rfl⟩
set_option maxRecDepth 100000 in
set_option maxHeartbeats 400000 in
theorem smallSigma1_any (x : BitVec 64) (w : World) :
  Calls Tryz.prog 164 #[.int .u64 (U x)] w fun e w' => e = .returned (.int .u64 (U (smallSigma1W x))) ∧ w' = w := by
 go_enter Tryz.func164, Tryz.ntmps164
 go_wp2_with fail
 refine (right_any x 19 19 rfl (by omega) (by omega) _).mono ?_
 rintro e w' ⟨rfl, rfl⟩
 go_wp2_with fail
 refine (right_any x 61 61 rfl (by omega) (by omega) _).mono ?_
 rintro e w' ⟨rfl, rfl⟩
 go_wp2
 go_ret
 exact ⟨ret_u64 (by rw [U_shr6, U_xor]; rfl), rfl⟩
end
theorem ret_i64 {a b : Int} (h : a = b) : Ending.returned (.int .i64 a) = .returned (.int .i64 b) := by rw [h]
def HS.filled (H : HS) : Nat := H.n % 128
theorem HS.filled_lo (H : HS) : H.lo.toNat % 128 = H.filled := by
 unfold HS.lo HS.filled; rw [BitVec.toNat_ofNat]; omega
theorem HS.filled_lt (H : HS) : H.filled < 128 := Nat.mod_lt _ (by decide)
theorem filled_num (lo : BitVec 64) : wrap64 ((U lo).tmod 128) = ((lo.toNat % 128 : Nat) : Int) := by
 have h1 : (U lo).tmod 128 = ((lo.toNat % 128 : Nat) : Int) := by unfold U; rw [Int.tmod_eq_emod_of_nonneg (by omega)]; omega
 rw [h1]; unfold wrap64; omega
section
attribute [local go_sem] U_and U_or U_xor U_not U_add U_add_one
set_option maxRecDepth 100000 in
set_option maxHeartbeats 400000 in
theorem filled_any (b : Nat) (T : TypeId) (H : HS) (w : World) (h : Has w b T H) :
  Calls Tryz.prog 125 #[.pointer (some ⟨b, 0, none⟩)] w fun e w' => e = .returned (.int .i64 H.filled) ∧ w' = w := by
 have h1 : w.cell? ⟨b, 137, none⟩ = some (.int .u64 (U H.lo)) := (h.cell 137).trans (H.row_lo h.len)
 clear h
 go_enter Tryz.func125, Tryz.ntmps125
 go_wp2
 go_ret
 exact ⟨ret_i64 ((filled_num _).trans (congrArg (fun x : Nat => (x : Int)) H.filled_lo)), rfl⟩
set_option maxRecDepth 100000 in
set_option maxHeartbeats 400000 in
theorem count_any (b : Nat) (T : TypeId) (H : HS) (z : Int) (n : Nat) (hz : z = n) (hn : n < 18446744073709551616) (w : World) (h : Has w b T H) :
  Calls Tryz.prog 126 #[.pointer (some ⟨b, 0, none⟩), .int .u64 z] w fun e w' => e = .returned (.tuple #[]) ∧ Has w' b T (H.count n) ∧ Turn b w w' := by
 have hz' : z = U (BitVec.ofNat 64 n) := by rw [hz, U_ofNat]; omega
 subst hz'
 clear hz
 have h1 : w.cell? ⟨b, 137, none⟩ = some (.int .u64 (U H.lo)) := (h.cell 137).trans (H.row_lo h.len)
 have h2 : w.cell? ⟨b, 136, none⟩ = some (.int .u64 (U H.hi)) := (h.cell 136).trans (H.row_hi h.len)
 have f1 := h.frozen 136
 have f2 := h.frozen 137
 have HL : Hid (H.lo + BitVec.ofNat 64 n = BitVec.ofNat 64 (H.n + n)) := lo_add _ _
 have HI : Hid (H.hi + 1#64 = BitVec.ofNat 64 (H.n / 18446744073709551616 + 1)) := lo_add _ 1
 have HH : Hid (Has w b T H) := h
 have HN : Hid (n < 18446744073709551616) := hn
 clear h hn
 generalize hx : BitVec.ofNat 64 n = x at *
 have HX : Hid (BitVec.ofNat 64 n = x) := hx
 clear hx
 go_enter Tryz.func126, Tryz.ntmps126
 go_wp2
 ·
  go_end0
  have hlt : U (H.lo + x) < U x := by assumption
  refine ⟨rfl, ⟨?_, HH.out.len⟩, ((Turn.refl b w).setCell rfl _).setCell rfl _⟩
  rw [HL.out, ← HX.out, carry_iff _ _ HN.out] at hlt
  have e := row_store (row_store HH.out.heap 137 (uv (H.lo + x))) 136 (uv (H.hi + 1#64))
  rw [HL.out, HI.out, ← hlt, H.set_hi_lo HH.out.len] at e
  rw [HL.out, HI.out, ← hlt]
  exact e
 ·
  go_end0
  have hge : U x ≤ U (H.lo + x) := by assumption
  refine ⟨rfl, ⟨?_, HH.out.len⟩, (Turn.refl b w).setCell rfl _⟩
  rw [HL.out, ← HX.out] at hge
  have hq := carry_not _ _ HN.out (Int.not_lt.mpr hge)
  have e := row_store HH.out.heap 137 (uv (H.lo + x))
  rw [HL.out, H.set_lo HH.out.len _ hq] at e
  rw [HL.out]
  exact e
def be (f : Nat → UInt8) : Nat → BitVec 64
 | 0 => 0
 | k + 1 => be f k <<< 8 ||| BitVec.ofNat 64 (f k).toNat
theorem U_byte (c : UInt8) : C8 c = U (BitVec.ofNat 64 c.toNat) := by
 unfold C8 U; rw [BitVec.toNat_ofNat]; have := c.toNat_lt; omega
theorem U_shl8 (a : BitVec 64) : IntKind.u64.wrap (U a * 256) = U (a <<< 8) := U_shl a 8
theorem wrap_C8 (c : UInt8) : IntKind.u64.wrap (C8 c) = U (BitVec.ofNat 64 c.toNat) := by
 rw [← U_byte, IntKind.wrap_u64]; have := C8_nonneg c; have := C8_lt c; omega
set_option maxRecDepth 100000 in
set_option maxHeartbeats 400000 in
theorem getWord_any (b off n cap : Nat) (f : Nat → UInt8) (w : World) (hn : 8 ≤ n) (hm : n ≤ 9223372036854775807)
  (hc : ∀ i, i < 8 → w.cell? ⟨b, off + i, none⟩ = some (.int .u8 (C8 (f i)))) :
  Calls Tryz.prog 163 #[.slice (some ⟨b, off, none⟩) n cap] w fun e w' => e = .returned (.int .u64 (U (be f 8))) ∧ w' = w := by
 go_enter Tryz.func163, Tryz.ntmps163
 go_wp2
 go_loop [3, 5] (fun v i => ∃ k : Nat, k ≤ 8 ∧ i = .int .i64 k ∧ v = .int .u64 (U (be f k))) (fun _ i => 8 - (intOf i).toNat)
 case atStart => exact ⟨0, Nat.zero_le _, rfl, rfl⟩
 case round =>
  obtain ⟨k, hk, rfl, rfl⟩ := hrel
  by_cases hlt : k < 8
  ·
   have hcell := hc k hlt
   clear hc
   have HE : Hid (bits BinOp.or IntKind.u64 (IntKind.u64.wrap (U (be f k) * 256)) (IntKind.u64.wrap (C8 (f k))) = U (be f (k + 1))) := by
    show _ = _
    rw [U_shl8, wrap_C8, U_or]; rfl
   go_wp2
   go_round
   case rel => exact ⟨k + 1, by omega, by go_num, congrArg (Value.int .u64) HE.out⟩
   case measure => simp [intOf]; omega
  ·
   clear hc
   obtain rfl : k = 8 := by omega
   go_wp2
   go_ret
   exact ⟨rfl, rfl⟩
def byteOf (x : BitVec 64) (k : Nat) : UInt8 := UInt8.ofNat (x >>> (56 - 8 * k)).toNat
theorem byte_num (x : BitVec 64) (n : Nat) : U x / 2 ^ n % 256 = C8 (UInt8.ofNat (x >>> n).toNat) := by
 rw [U_shr]; unfold U C8; rw [UInt8.toNat_ofNat']; omega
def lay (cs : List Value) (off : Nat) (x : BitVec 64) : Nat → List Value
 | 0 => cs
 | k + 1 => (lay cs off x k).set (off + k) (cv (byteOf x k))
theorem lay_length (cs : List Value) (off : Nat) (x : BitVec 64) (k : Nat) : (lay cs off x k).length = cs.length := by
 induction k with
 | zero => rfl
 | succ k ih => simp [lay, ih]
set_option maxRecDepth 100000 in
set_option maxHeartbeats 400000 in
theorem putWord_any (b off n cap : Nat) (T : TypeId) (cs : List Value) (x : BitVec 64) (w : World) (hn : 8 ≤ n) (hm : n ≤ 9223372036854775807)
  (hrow : w.heap[b]? = some (.cells cs.toArray T (0, 0))) (hfit : off + 8 ≤ cs.length) :
  Calls Tryz.prog 129 #[.slice (some ⟨b, off, none⟩) n cap, .int .u64 (U x)] w fun e w' => e = .returned (.tuple #[]) ∧ w'.heap[b]? = some (.cells (lay cs off x 8).toArray T (0, 0)) ∧ Turn b w w' := by
 have HR : Hid (w.heap[b]? = some (.cells cs.toArray T (0, 0))) := hrow
 clear hrow
 go_enter Tryz.func129, Tryz.ntmps129
 go_wp2
 go_loopw [5] (fun i wr => ∃ k : Nat, k ≤ 8 ∧ i = .int .i64 k ∧ Hid (wr.heap[b]? = some (.cells (lay cs off x k).toArray T (0, 0))) ∧ Turn b w wr) (fun i _ => 8 - (intOf i).toNat)
 case atStart => exact ⟨0, Nat.zero_le _, rfl, HR, Turn.refl _ _⟩
 case round =>
  obtain ⟨k, hk, rfl, hr, ht⟩ := hrel
  by_cases hlt : k < 8
  ·
   have hkl : off + k < (lay cs off x k).length := by rw [lay_length]; omega
   obtain ⟨v0, hv0⟩ : ∃ v0, wr.cell? ⟨b, off + k, none⟩ = some v0 := ⟨_, (cell_of_row wr b (off + k) _ T _ hr.out).trans (by simp; exact List.getElem?_eq_getElem hkl)⟩
   have hfr := frozen_of_row wr b (off + k) _ T hr.out
   have HB : Hid (U x / 2 ^ (56 - 8 * k) % 256 = C8 (byteOf x k)) := byte_num x (56 - 8 * k)
   clear hkl
   go_wp2
   go_roundw
   case rel => exact ⟨k + 1, by omega, by go_num, by rw [HB.out]; exact row_store hr.out (off + k) _, ht.setCell rfl _⟩
   case measure => simp [intOf]; omega
  ·
   obtain rfl : k = 8 := by omega
   go_wp2
   go_end0
   exact ⟨rfl, hr.out, ht⟩
end
def w16 (blk : List UInt8) (t : Nat) : BitVec 64 := be (fun i => blk.getD (8 * t + i) 0) 8
def w16s (blk : List UInt8) : Nat → List (BitVec 64)
 | 0 => []
 | n + 1 => w16s blk n ++ [w16 blk n]
theorem w16s_length (blk : List UInt8) (n : Nat) : (w16s blk n).length = n := by
 induction n with
 | zero => rfl
 | succ n ih => simp [w16s, ih]
def nextW (l : List (BitVec 64)) (n : Nat) : BitVec 64 :=
 smallSigma1W (l.getD (n + 14) 0) + l.getD (n + 9) 0 + smallSigma0W (l.getD (n + 1) 0) + l.getD n 0
def sch (blk : List UInt8) : Nat → List (BitVec 64)
 | 0 => w16s blk 16
 | n + 1 => sch blk n ++ [nextW (sch blk n) n]
theorem sch_length (blk : List UInt8) (n : Nat) : (sch blk n).length = 16 + n := by
 induction n with
 | zero => simp [sch, w16s_length]
 | succ n ih => simp [sch, ih]; omega
def wrow (l : List (BitVec 64)) : List Value := l.map uv ++ List.replicate (80 - l.length) (uv 0)
theorem wrow_length (l : List (BitVec 64)) (h : l.length ≤ 80) : (wrow l).length = 80 := by simp [wrow]; omega
theorem wrow_get (l : List (BitVec 64)) (i : Nat) (h : i < l.length) : (wrow l)[i]? = some (uv (l.getD i 0)) := by
 unfold wrow; rw [List.getElem?_append_left (by simpa using h)]; simp [h]
theorem wrow_there (l : List (BitVec 64)) (i : Nat) (h : i < 80) (hl : l.length ≤ 80) : ∃ v, (wrow l)[i]? = some v :=
 ⟨_, List.getElem?_eq_getElem (by rw [wrow_length l hl]; exact h)⟩
theorem wrow_set (l : List (BitVec 64)) (x : BitVec 64) (h : l.length < 80) : (wrow l).set l.length (uv x) = wrow (l ++ [x]) := by
 unfold wrow
 rw [List.set_append_right _ _ (by simp)]
 obtain ⟨m, hm⟩ : ∃ m, 80 - l.length = m + 1 := ⟨79 - l.length, by omega⟩
 have e2 : 80 - (l ++ [x]).length = m := by simp; omega
 rw [hm, e2]
 simp [List.replicate_succ]
theorem wrow_cell (l : List (BitVec 64)) : ∀ v ∈ wrow l, v.oneCell' = true := by
 intro v hv
 rcases List.mem_append.1 hv with h | h
 · obtain ⟨x, _, rfl⟩ := List.mem_map.1 h; rfl
 · rw [(List.mem_replicate.1 h).2]; rfl
theorem zero80 (w : World) : (zeroValue 257).run Tryz.prog w = .ok (.agg (wrow []).toArray) w := by kernel_rfl
theorem under128 : Tryz.prog.underlying 164 = some (.array 128 5) := by kernel_rfl
theorem sizeU8H : (Tryz.prog.info? 5).map (·.size) = some 1 := by kernel_rfl
theorem slice128 (b o : Nat) (z : Int) (l : Nat) (hz : z = l) (hl : l < 128) (w : World) :
  (Instr.sliceAt 164 (.pointer (some ⟨b, o, none⟩)) (some (.int .i64 z)) none none).run Tryz.prog w = .ok (.slice (some ⟨b, o + l, none⟩) (128 - l) (128 - l)) w := by
 subst hz
 have h1 : ((l : Int) ≤ 128) := by omega
 have h2 : ¬ 128 = l := by omega
 cases hq : Tryz.prog.info? 5 with
 | none => have := sizeU8H; rw [hq] at this; cases this
 | some i =>
  have hi : i.size = 1 := by have := sizeU8H; rw [hq] at this; simpa using this
  simp [Instr.sliceAt, Instr.sureAddr, run_underlying under128, Instr.sliceBounds, run_sliceBound, sizeOf, typeInfo, hq, hi, h1, h2, Addr.add]
theorem under80 : Tryz.prog.underlying 257 = some (.array 80 59) := by kernel_rfl
theorem size80 : (Tryz.prog.info? 257).map (·.size) = some 80 := by kernel_rfl
theorem size4W (n : Nat) : (Tryz.prog.info? 60).map (·.size) = some (num4A n).size := size4
theorem zero4W (w : World) : (zeroValue 60).run Tryz.prog w = .ok (.agg (num4A 0)) w := by kernel_rfl
theorem n4W (m n : Nat) : (num4A m).size = (num4A n).size := rfl
theorem num4A_atW (n t : Nat) (ht : t < 4) : (num4A n)[t]? = some (nv (wd n t)) := by
 have h4 : t = 0 ∨ t = 1 ∨ t = 2 ∨ t = 3 := by omega
 rcases h4 with rfl | rfl | rfl | rfl <;> rfl
theorem index4W (n t : Nat) (ht : t < 4) (w : World) : (Instr.index 60 (.agg (num4A n)) (.int .i64 t)).run Tryz.prog w = .ok (nv (wd n t)) w := by
 cases hq : Tryz.prog.info? 59 with
 | none => have := sizeOf64; rw [hq] at this; cases this
 | some inf =>
  have hs : inf.size = 1 := by have := sizeOf64; rw [hq] at this; simpa using this
  have h0 := num4A_atW n t ht
  simp [Instr.index, asIntOf, run_underlying under4, sizeOf, typeInfo, hq, hs, part64 _ t _ h0]
  intro h; omega
def setW (n j v : Nat) : Nat := n - wd n j * 18446744073709551616 ^ j + v * 18446744073709551616 ^ j
theorem wd_le (n j : Nat) : wd n j * 18446744073709551616 ^ j ≤ n := by
 unfold wd
 calc n / 18446744073709551616 ^ j % 18446744073709551616 * 18446744073709551616 ^ j ≤ n / 18446744073709551616 ^ j * 18446744073709551616 ^ j := Nat.mul_le_mul_right _ (Nat.mod_le _ _)
  _ ≤ n := Nat.div_mul_le_self _ _
theorem setW_row (n j v : Nat) (hn : n < 115792089237316195423570985008687907853269984665640564039457584007913129639936) (hj : j < 4) (hv : v < 18446744073709551616) :
  ([nv (wd n 0), nv (wd n 1), nv (wd n 2), nv (wd n 3)].set j (nv v)).toArray = num4A (setW n j v) ∧ setW n j v < 115792089237316195423570985008687907853269984665640564039457584007913129639936 := by
 have h4 : j = 0 ∨ j = 1 ∨ j = 2 ∨ j = 3 := by omega
 rcases h4 with rfl | rfl | rfl | rfl
 all_goals
  unfold num4A setW wd
  simp only [Nat.reducePow, Nat.pow_zero, Nat.pow_one, Nat.div_one, Nat.mul_one, List.set_cons_zero, List.set_cons_succ]
  refine ⟨?_, by omega⟩
 · rw [show (n - n % 18446744073709551616 + v) % 18446744073709551616 = v by omega, show (n - n % 18446744073709551616 + v) / 18446744073709551616 = n / 18446744073709551616 by omega, show (n - n % 18446744073709551616 + v) / 340282366920938463463374607431768211456 = n / 340282366920938463463374607431768211456 by omega, show (n - n % 18446744073709551616 + v) / 6277101735386680763835789423207666416102355444464034512896 = n / 6277101735386680763835789423207666416102355444464034512896 by omega]
 · rw [show (n - n / 18446744073709551616 % 18446744073709551616 * 18446744073709551616 + v * 18446744073709551616) % 18446744073709551616 = n % 18446744073709551616 by omega, show (n - n / 18446744073709551616 % 18446744073709551616 * 18446744073709551616 + v * 18446744073709551616) / 18446744073709551616 % 18446744073709551616 = v by omega, show (n - n / 18446744073709551616 % 18446744073709551616 * 18446744073709551616 + v * 18446744073709551616) / 340282366920938463463374607431768211456 = n / 340282366920938463463374607431768211456 by omega, show (n - n / 18446744073709551616 % 18446744073709551616 * 18446744073709551616 + v * 18446744073709551616) / 6277101735386680763835789423207666416102355444464034512896 = n / 6277101735386680763835789423207666416102355444464034512896 by omega]
 · rw [show (n - n / 340282366920938463463374607431768211456 % 18446744073709551616 * 340282366920938463463374607431768211456 + v * 340282366920938463463374607431768211456) % 18446744073709551616 = n % 18446744073709551616 by omega, show (n - n / 340282366920938463463374607431768211456 % 18446744073709551616 * 340282366920938463463374607431768211456 + v * 340282366920938463463374607431768211456) / 18446744073709551616 % 18446744073709551616 = n / 18446744073709551616 % 18446744073709551616 by omega, show (n - n / 340282366920938463463374607431768211456 % 18446744073709551616 * 340282366920938463463374607431768211456 + v * 340282366920938463463374607431768211456) / 340282366920938463463374607431768211456 % 18446744073709551616 = v by omega, show (n - n / 340282366920938463463374607431768211456 % 18446744073709551616 * 340282366920938463463374607431768211456 + v * 340282366920938463463374607431768211456) / 6277101735386680763835789423207666416102355444464034512896 = n / 6277101735386680763835789423207666416102355444464034512896 by omega]
 · rw [show (n - n / 6277101735386680763835789423207666416102355444464034512896 % 18446744073709551616 * 6277101735386680763835789423207666416102355444464034512896 + v * 6277101735386680763835789423207666416102355444464034512896) % 18446744073709551616 = n % 18446744073709551616 by omega, show (n - n / 6277101735386680763835789423207666416102355444464034512896 % 18446744073709551616 * 6277101735386680763835789423207666416102355444464034512896 + v * 6277101735386680763835789423207666416102355444464034512896) / 18446744073709551616 % 18446744073709551616 = n / 18446744073709551616 % 18446744073709551616 by omega, show (n - n / 6277101735386680763835789423207666416102355444464034512896 % 18446744073709551616 * 6277101735386680763835789423207666416102355444464034512896 + v * 6277101735386680763835789423207666416102355444464034512896) / 340282366920938463463374607431768211456 % 18446744073709551616 = n / 340282366920938463463374607431768211456 % 18446744073709551616 by omega, show (n - n / 6277101735386680763835789423207666416102355444464034512896 % 18446744073709551616 * 6277101735386680763835789423207666416102355444464034512896 + v * 6277101735386680763835789423207666416102355444464034512896) / 6277101735386680763835789423207666416102355444464034512896 % 18446744073709551616 = v by omega]
theorem step_W (X c H w b j lo hi : Nat) (h : X + c * 18446744073709551616 ^ j = H + w * (b % 18446744073709551616 ^ j)) (hm : lo + 18446744073709551616 * hi = w * wd b j + wd X j + c) :
  setW X j lo + hi * 18446744073709551616 ^ (j + 1) = H + w * (b % 18446744073709551616 ^ (j + 1)) := by
 have hle := wd_le X j
 have e1 : b % 18446744073709551616 ^ (j + 1) = b % 18446744073709551616 ^ j + 18446744073709551616 ^ j * wd b j := by
  unfold wd; rw [Nat.pow_succ, Nat.mod_mul]
 unfold setW
 rw [e1, Nat.pow_succ]
 generalize 18446744073709551616 ^ j = p at *
 generalize b % p = r at *
 generalize wd b j = y at *
 generalize wd X j = x at *
 have e2 : w * (r + p * y) = w * r + p * (w * y) := by rw [Nat.mul_add, ← Nat.mul_assoc w p y, Nat.mul_comm w p, Nat.mul_assoc]
 rw [e2]
 have e3 : lo * p + hi * (p * 18446744073709551616) = p * (w * y) + x * p + c * p := by
  have : p * (lo + 18446744073709551616 * hi) = p * (w * y + x + c) := by rw [hm]
  rw [Nat.mul_add, Nat.mul_add, Nat.mul_add] at this
  rw [Nat.mul_comm lo p, Nat.mul_comm x p, Nat.mul_comm c p, ← this, ← Nat.mul_assoc p, Nat.mul_comm hi]
 omega
theorem at5W_4 (w : World) (A B C D E : Obj) : (((((w.alloc A).alloc B).alloc C).alloc D).alloc E).heap[w.heap.size + 4]? = some E := by
 have e := heap_alloc_new ((((w.alloc A).alloc B).alloc C).alloc D) E
 simpa using e
theorem at5W_3 (w : World) (A B C D E : Obj) : (((((w.alloc A).alloc B).alloc C).alloc D).alloc E).heap[w.heap.size + 3]? = some D := by
 rw [heap_alloc_old _ _ (by simp only [World.size_alloc]; omega)]
 have e := heap_alloc_new (((w.alloc A).alloc B).alloc C) D
 simpa using e
theorem at5W_2 (w : World) (A B C D E : Obj) : (((((w.alloc A).alloc B).alloc C).alloc D).alloc E).heap[w.heap.size + 2]? = some C := by
 rw [heap_alloc_old _ _ (by simp only [World.size_alloc]; omega), heap_alloc_old _ _ (by simp only [World.size_alloc]; omega)]; exact heap3_2 _ _ _ _
theorem at5W_1 (w : World) (A B C D E : Obj) : (((((w.alloc A).alloc B).alloc C).alloc D).alloc E).heap[w.heap.size + 1]? = some B := by
 rw [heap_alloc_old _ _ (by simp only [World.size_alloc]; omega), heap_alloc_old _ _ (by simp only [World.size_alloc]; omega)]; exact heap3_1 _ _ _ _
theorem at5W_0 (w : World) (A B C D E : Obj) : (((((w.alloc A).alloc B).alloc C).alloc D).alloc E).heap[w.heap.size]? = some A := by
 rw [heap_alloc_old _ _ (by simp only [World.size_alloc]; omega), heap_alloc_old _ _ (by simp only [World.size_alloc]; omega)]; exact heap3_0 _ _ _ _
theorem shift_row (X cc : Nat) (hX : X < 115792089237316195423570985008687907853269984665640564039457584007913129639936) (hc : cc < 18446744073709551616) : (#[nv (wd X 1), nv (wd X 2), nv (wd X 3), nv cc] : Array Value) = num4A (X / 18446744073709551616 + cc * 6277101735386680763835789423207666416102355444464034512896) ∧ X / 18446744073709551616 + cc * 6277101735386680763835789423207666416102355444464034512896 < 115792089237316195423570985008687907853269984665640564039457584007913129639936 := by
 refine ⟨?_, by omega⟩
 unfold num4A wd
 simp only [Nat.reducePow, Nat.pow_zero, Nat.pow_one, Nat.div_one]
 rw [show (X / 18446744073709551616 + cc * 6277101735386680763835789423207666416102355444464034512896) % 18446744073709551616 = X / 18446744073709551616 % 18446744073709551616 by omega, show (X / 18446744073709551616 + cc * 6277101735386680763835789423207666416102355444464034512896) / 18446744073709551616 % 18446744073709551616 = X / 340282366920938463463374607431768211456 % 18446744073709551616 by omega, show (X / 18446744073709551616 + cc * 6277101735386680763835789423207666416102355444464034512896) / 340282366920938463463374607431768211456 % 18446744073709551616 = X / 6277101735386680763835789423207666416102355444464034512896 % 18446744073709551616 by omega, show (X / 18446744073709551616 + cc * 6277101735386680763835789423207666416102355444464034512896) / 6277101735386680763835789423207666416102355444464034512896 % 18446744073709551616 = cc by omega]
theorem round_W (a b c L H X cc k : Nat) (hL : L < 18446744073709551616 ^ k) (h : L + H * 18446744073709551616 ^ k = a % 18446744073709551616 ^ k * b + c) (hX : X + cc * 18446744073709551616 ^ 4 = H + wd a k * b) :
  setW L k (wd X 0) < 18446744073709551616 ^ (k + 1) ∧ setW L k (wd X 0) + (X / 18446744073709551616 + cc * 6277101735386680763835789423207666416102355444464034512896) * 18446744073709551616 ^ (k + 1) = a % 18446744073709551616 ^ (k + 1) * b + c := by
 have e0 : wd L k = 0 := by unfold wd; rw [Nat.div_eq_of_lt hL]
 have e1 : a % 18446744073709551616 ^ (k + 1) = a % 18446744073709551616 ^ k + 18446744073709551616 ^ k * wd a k := by
  unfold wd; rw [Nat.pow_succ, Nat.mod_mul]
 have ex : wd X 0 = X % 18446744073709551616 := by unfold wd; rw [Nat.pow_zero, Nat.div_one]
 have e4 : (18446744073709551616 : Nat) ^ 4 = 18446744073709551616 * 6277101735386680763835789423207666416102355444464034512896 := by decide
 unfold setW
 rw [e0, e1, Nat.zero_mul, Nat.sub_zero, ex, Nat.pow_succ]
 rw [e4] at hX
 generalize 18446744073709551616 ^ k = p at *
 generalize a % p = r at *
 generalize wd a k = y at *
 have hd := Nat.div_add_mod X 18446744073709551616
 have hm : X % 18446744073709551616 < 18446744073709551616 := Nat.mod_lt _ (by decide)
 generalize X / 18446744073709551616 = d at *
 generalize X % 18446744073709551616 = z at *
 refine ⟨?_, ?_⟩
 ·
  have : z * p ≤ 18446744073709551615 * p := Nat.mul_le_mul_right _ (by omega)
  omega
 ·
  have e5 : (r + p * y) * b = r * b + p * (y * b) := by rw [Nat.add_mul, Nat.mul_assoc]
  rw [e5]
  have e6 : p * (z + 18446744073709551616 * (d + cc * 6277101735386680763835789423207666416102355444464034512896)) = p * (H + y * b) := by
   rw [← hX, ← hd]
   congr 1
   rw [Nat.mul_add]
   rw [show 18446744073709551616 * (cc * 6277101735386680763835789423207666416102355444464034512896) = cc * (18446744073709551616 * 6277101735386680763835789423207666416102355444464034512896) by rw [← Nat.mul_assoc, Nat.mul_comm 18446744073709551616 cc, Nat.mul_assoc]]
   omega
  rw [Nat.mul_add, Nat.mul_add p H] at e6
  have e7 : (d + cc * 6277101735386680763835789423207666416102355444464034512896) * (p * 18446744073709551616) = p * (18446744073709551616 * (d + cc * 6277101735386680763835789423207666416102355444464034512896)) := by
   rw [Nat.mul_comm, Nat.mul_assoc]
  rw [e7, Nat.mul_comm z p]
  have e8 : H * p = p * H := Nat.mul_comm _ _
  rw [e8] at h
  omega
end Go.Proofs.YtccgfabojbjmjaaGreatDoor
