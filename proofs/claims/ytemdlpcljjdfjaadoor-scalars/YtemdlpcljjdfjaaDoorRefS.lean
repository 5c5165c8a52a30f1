import Derived.Test.YtemdlpcljjdfjaaDoorRows
import Derived.Test.YtemdlpcljjdfjaaDoorDigs
import Derived.WalkSpells
import Derived.WalkLawsBesides
import Derived.Handy
import Derived.Deep.MidRow
import Derived.Laws.CopyOwn
import Derived.Laws.BitsLemmas
/- The document's answer: carried, below, order. -/
namespace Go.Proofs.YtemdlpcljjdfjaaDoor
open Go.RowKit
theorem and65535 (n : Int) : bits .and .i64 n 65535 = n % 65536 := by
  have h : (BitVec.ofInt 64 65535).toNat = 2 ^ 16 - 1 := by decide
  have key : (BitVec.ofInt 64 n &&& BitVec.ofInt 64 65535).toNat = (n % ((2 ^ 64 : Nat) : Int)).toNat % 2 ^ 16 := by
    rw [BitVec.toNat_and, BitVec.toNat_ofInt, h, Nat.and_two_pow_sub_one_eq_mod]
  show IntKind.i64.wrap ((BitVec.ofInt 64 n &&& BitVec.ofInt 64 65535).toNat : Nat) = n % 65536
  rw [key, IntKind.wrap_i64]
  omega
theorem underS : ∃ t, Tryd.prog.underlying 84 = some (.array 17 t) := ⟨3, by kernel_rfl⟩
theorem underS' : Tryd.prog.underlying 84 = some (.array 17 3) := by kernel_rfl
theorem sizeS : (Tryd.prog.info? 84).map (·.size) = some 17 := by kernel_rfl
def zS : Array Value := ((List.replicate 17 (0 : Int)).map iv).toArray
theorem zeroS (w : World) : (zeroValue 84).run Tryd.prog w = .ok (.agg zS) w := by kernel_rfl
theorem lt_row {w : World} {g : Nat} {o : Obj} (h : w.heap[g]? = some o) : g < w.heap.size := by
  rcases Nat.lt_or_ge g w.heap.size with k | k
  · exact k
  · rw [Array.getElem?_eq_none k] at h; cases h
theorem far_row {w : World} {g g' : Nat} {o : Obj} (i : Nat) (v : Value) (h : w.heap[g]? = some o) (hne : g ≠ g') : (w.setCell ⟨g', i, none⟩ v).heap[g]? = some o :=
  (Below.heap_setCell w _ v g hne).trans h
section
attribute [local go_sem] and65535
set_option maxRecDepth 100000 in
set_option maxHeartbeats 400000 in
theorem carried_any (d : List Int) (hl : d.length = 17) (hb : ∀ x ∈ d, -1099511627776 ≤ x ∧ x ≤ 1099511627776) (w : World) :
    Calls Tryd.prog 66 #[.agg (d.map iv).toArray] w fun e w' => e = .returned (.agg ((dB 65536 17 (vB 65536 d)).map iv).toArray) ∧ Below w.heap.size w w' := by
  have hz := zeroS
  have HL := hide hl
  have HB := hide hb
  clear hl hb
  obtain ⟨M, HM⟩ : ∃ M, Hid (M = (d.map iv).toArray) := ⟨_, rfl⟩
  rw [← HM.out]
  go_enter Tryd.func66, Tryd.ntmps66
  go_wp2_with fail
  go_loopw [3, 4] (fun c i wr => ∃ (k : Nat) (z : Int), k ≤ 17 ∧ i = .int .i64 k ∧ c = .int .i64 z ∧ Hid (z = carry 65536 d k) ∧ Hid (wr.heap[w.heap.size]? = some (.cells ((rowC 65536 d k).map iv).toArray 84 (0, 0))) ∧ Hid (wr.heap[w.heap.size + 1]? = some (.cells zS 84 (0, 0))) ∧ Hid (Below w.heap.size w wr)) (fun _ i _ => 17 - (intOf i).toNat)
  case atStart =>
    refine ⟨0, 0, Nat.zero_le _, rfl, rfl, rfl, ?_, heap_alloc2_new _ _ _, by show Below _ _ _; go_grown⟩
    rw [rowC_zero, ← HM.out]; exact (heap_alloc_old _ _ (by simp)).trans (heap_alloc_new _ _)
  case round =>
    obtain ⟨k, z, hk, rfl, rfl, HZ, H0, H1, HBl⟩ := hrel
    by_cases hlt : k < 17
    · have bk : (k : Int) < 17 := by omega
      have c0 := ivs_get H0.out k (by rw [rowC_length, HL.out]; exact hlt)
      rw [rowC_get _ _ _ (by rw [HL.out]; exact hlt)] at c0
      have f0 := frozen_of_row wr w.heap.size k _ _ H0.out
      obtain ⟨x, HX⟩ : ∃ x, Hid (x = d.getD k 0) := ⟨_, rfl⟩
      rw [← HX.out] at c0
      have hx := HB.out _ (getD_mem (l := d) (i := k) (by rw [HL.out]; exact hlt))
      rw [← HX.out] at hx
      have hz1 := carry_bound 65536 (by decide) d 1099511627776 HB.out (by decide) k (by rw [HL.out]; omega)
      rw [← HZ.out] at hz1
      obtain ⟨x0, x1⟩ := hx
      obtain ⟨z0, z1⟩ := hz1
      have hw1 : IntKind.i64.wrap (x + z) = x + z := by rw [IntKind.wrap_i64]; omega
      clear hz
      go_wp2_with fail
      refine ⟨⟨k + 1, (x + z) / 65536, by omega, by go_num, rfl, ?_, ?_, far_row _ _ H1.out (by omega), HBl.out.setCell (by show _ ≤ _; exact Nat.le_refl _) _⟩, by simp [intOf]; omega⟩
      · show _ = _; simp only [carry]; rw [← HX.out, ← HZ.out]
      · show _ = _
        rw [← rowC_step _ _ _ (by rw [HL.out]; exact hlt), List.map_set, ← HX.out, ← HZ.out]
        exact row_store H0.out k _
    · have hk17 : k = 17 := by omega
      have bk : (17 : Int) ≤ (k : Int) := by omega
      obtain ⟨R, HR⟩ : ∃ R, Hid (R = (dB 65536 17 (vB 65536 d)).map iv) := ⟨_, rfl⟩
      have H0' : Hid (wr.heap[w.heap.size]? = some (.cells R.toArray 84 (0, 0))) := by
        have e := H0.out
        rw [hk17, show rowC 65536 d 17 = rowC 65536 d d.length by rw [HL.out], rowC_all _ (by decide), HL.out, ← HR.out] at e
        exact e
      have hRl : R.length = 17 := by rw [HR.out, List.length_map, dB_length]
      have HSz : Hid ((Tryd.prog.info? 84).map (·.size) = some R.toArray.size) := by show _ = _; rw [sizeS]; simp [hRl]
      have HO : Hid (zS.size = R.toArray.size) := by show _ = _; simp [hRl]; rfl
      have HA : Hid (R.toArray.all (·.oneCell') = true) := by rw [HR.out]; exact all_oneCell_toArray (ivs_cell _)
      clear H0 hk17 hlt hk hRl hz
      go_wp2_with (first | (refine wpList_load_row (by rfl) 84 (.tmp 1) (by rfl) w.heap.size (by rfl) 84 R.toArray (0, 0) _ H0'.out underS' rfl HSz.out ?_) | (refine wpList_store_row (by rfl) 84 (.tmp 2) (.tmp 21) (by rfl) (w.heap.size + 1) R.toArray (by rfl) (by rfl) 84 _ H1.out HSz.out HO.out HA.out ?_))
      refine bodyPost_ret (v := .agg R.toArray) (results_cell_row Tryd.results66 _ _ (w.heap.size + 1) 84 R.toArray (0, 0) _ (by rfl) (setRow_heap _ _ _ _ _ _ H1.out) underS' rfl HSz.out) rfl ⟨by rw [HR.out], below_setRow HBl.out (by omega) _⟩
end
theorem vB_inj (B : Int) (a b : List Int) (h : a = b) : ¬ vB B a < vB B b := by rw [h]; omega
theorem drop_ext {a b : List Int} {i : Nat} (ha : i < a.length) (hb : i < b.length) (h : a.drop (i + 1) = b.drop (i + 1)) (he : a.getD i 0 = b.getD i 0) : a.drop i = b.drop i := by
  rw [List.drop_eq_getElem_cons ha, List.drop_eq_getElem_cons hb, h]
  simp [List.getD, List.getElem?_eq_getElem ha, List.getElem?_eq_getElem hb] at he
  rw [he]
section
set_option maxRecDepth 100000 in
set_option maxHeartbeats 400000 in
theorem below_any (a b : List Int) (ha : a.length = 17) (hb : b.length = 17) (ra : ∀ x ∈ a, 0 ≤ x ∧ x < 65536) (rb : ∀ x ∈ b, 0 ≤ x ∧ x < 65536) (w : World) :
    Calls Tryd.prog 67 #[.agg (a.map iv).toArray, .agg (b.map iv).toArray] w fun e w' => e = .returned (.bool (decide (vB 65536 a < vB 65536 b))) ∧ Below w.heap.size w w' := by
  have HA := hide ha
  have HB := hide hb
  have HRA := hide ra
  have HRB := hide rb
  clear ha hb ra rb
  obtain ⟨M, HM⟩ : ∃ M, Hid (M = (a.map iv).toArray) := ⟨_, rfl⟩
  obtain ⟨N, HN⟩ : ∃ N, Hid (N = (b.map iv).toArray) := ⟨_, rfl⟩
  rw [← HM.out, ← HN.out]
  obtain ⟨r, HR⟩ : ∃ r, Hid (r = decide (vB 65536 a < vB 65536 b)) := ⟨_, rfl⟩
  rw [← HR.out]
  go_enter Tryd.func67, Tryd.ntmps67
  go_wp2_with fail
  go_loopw [5] (fun i wr => ∃ (j : Nat) (z : Int), j ≤ 17 ∧ i = .int .i64 z ∧ Hid (z = (j : Int) - 1) ∧ Hid (a.drop j = b.drop j) ∧ Hid (wr.heap[w.heap.size]? = some (.cells M 84 (0, 0))) ∧ Hid (wr.heap[w.heap.size + 1]? = some (.cells N 84 (0, 0))) ∧ Hid (Below w.heap.size w wr)) (fun i _ => (intOf i + 1).toNat)
  case atStart =>
    refine ⟨17, 16, Nat.le_refl _, rfl, rfl, ?_, (heap_alloc_old _ _ (by simp)).trans (heap_alloc_new _ _), heap_alloc2_new _ _ _, by show Below _ _ _; go_grown⟩
    rw [List.drop_eq_nil_of_le (by rw [HA.out]; exact Nat.le_refl _), List.drop_eq_nil_of_le (by rw [HB.out]; exact Nat.le_refl _)]; exact rfl
  case round =>
    obtain ⟨j, z, hj, rfl, HZ, HD, H0, H1, HBl⟩ := hrel
    by_cases hlt : 0 < j
    · obtain ⟨i, rfl⟩ : ∃ i, j = i + 1 := ⟨j - 1, by omega⟩
      obtain rfl : z = (i : Int) := by have := HZ.out; omega
      have bi : (i : Int) < 17 := by omega
      have c0 := ivs_get (by rw [← HM.out]; exact H0.out) i (by rw [HA.out]; omega)
      have c1 := ivs_get (by rw [← HN.out]; exact H1.out) i (by rw [HB.out]; omega)
      obtain ⟨x, HX⟩ : ∃ x, Hid (x = a.getD i 0) := ⟨_, rfl⟩
      obtain ⟨y, HY⟩ : ∃ y, Hid (y = b.getD i 0) := ⟨_, rfl⟩
      rw [← HX.out] at c0
      rw [← HY.out] at c1
      by_cases hxy : x = y
      · have HXY := hide hxy
        have hne : (x != y) = false := by rw [hxy]; simp
        clear hxy
        go_wp2_with fail
        go_region
        go_wp2_with fail
        refine ⟨⟨i, (i : Int) - 1, by omega, by go_num, rfl, ?_, H0, H1, HBl.out.drew⟩, by simp [intOf]⟩
        have := HXY.out; rw [HX.out, HY.out] at this
        exact drop_ext (by rw [HA.out]; omega) (by rw [HB.out]; omega) HD.out this
      · have HXY := hide hxy
        have hne : (x != y) = true := by rw [bne_iff_ne]; exact hxy
        clear hxy
        go_wp2_with fail
        go_region
        go_wp2_with fail
        go_region
        go_wp2_with fail
        go_returns
        refine ⟨?_, HBl.out.drew.drew⟩
        have e := lt_by_digit 65536 (by decide) a b i HRA.out HRB.out (by rw [HA.out, HB.out]) (by rw [HA.out]; omega) HD.out (by rw [← HX.out, ← HY.out]; exact HXY.out)
        rw [← HX.out, ← HY.out] at e
        rw [HR.out]
        simp only [e]
        rfl
    · obtain rfl : j = 0 := by omega
      have hz0 : z = -1 := by have := HZ.out; omega
      subst hz0
      go_wp2_with fail
      go_returns
      refine ⟨?_, HBl.out⟩
      have e := HD.out
      rw [List.drop_zero, List.drop_zero] at e
      rw [HR.out, decide_eq_false (vB_inj 65536 a b e)]
      rfl
theorem builtL : Tryd.prog.built 84 [(0, .int .i64 54253), (1, .int .i64 23797), (2, .int .i64 25370), (3, .int .i64 22546), (4, .int .i64 40150), (5, .int .i64 41719), (6, .int .i64 63966), (7, .int .i64 5342), (8, .int .i64 0), (9, .int .i64 0), (10, .int .i64 0), (11, .int .i64 0), (12, .int .i64 0), (13, .int .i64 0), (14, .int .i64 0), (15, .int .i64 4096), (16, .int .i64 0)] = some ((dB 65536 17 7237005577332262213973186563042994240857116359379907606001950938285454250989).map iv).toArray := by kernel_rfl
end
end Go.Proofs.YtemdlpcljjdfjaaDoor
