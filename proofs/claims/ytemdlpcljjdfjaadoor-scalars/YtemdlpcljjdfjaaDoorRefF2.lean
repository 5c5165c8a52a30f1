import Derived.Test.YtemdlpcljjdfjaaDoorRefS
import Derived.Test.YtemdlpcljjdfjaaDoorFMul
import Derived.Deep.CutRange
/- The document's answer: settled. -/
namespace Go.Proofs.YtemdlpcljjdfjaaDoor
open Go.RowKit
theorem and26 (n : Int) : bits .and .i64 n 67108863 = n % 67108864 := by
  have h : (BitVec.ofInt 64 67108863).toNat = 2 ^ 26 - 1 := by decide
  have key : (BitVec.ofInt 64 n &&& BitVec.ofInt 64 67108863).toNat = (n % ((2 ^ 64 : Nat) : Int)).toNat % 2 ^ 26 := by
    rw [BitVec.toNat_and, BitVec.toNat_ofInt, h, Nat.and_two_pow_sub_one_eq_mod]
  show IntKind.i64.wrap ((BitVec.ofInt 64 n &&& BitVec.ofInt 64 67108863).toNat : Nat) = n % 67108864
  rw [key, IntKind.wrap_i64]
  omega
theorem and21 (n : Int) : bits .and .i64 n 2097151 = n % 2097152 := by
  have h : (BitVec.ofInt 64 2097151).toNat = 2 ^ 21 - 1 := by decide
  have key : (BitVec.ofInt 64 n &&& BitVec.ofInt 64 2097151).toNat = (n % ((2 ^ 64 : Nat) : Int)).toNat % 2 ^ 21 := by
    rw [BitVec.toNat_and, BitVec.toNat_ofInt, h, Nat.and_two_pow_sub_one_eq_mod]
  show IntKind.i64.wrap ((BitVec.ofInt 64 n &&& BitVec.ofInt 64 2097151).toNat : Nat) = n % 2097152
  rw [key, IntKind.wrap_i64]
  omega
theorem underF : Tryd.prog.underlying 76 = some (.array 10 3) := by kernel_rfl
theorem sizeF : (Tryd.prog.info? 76).map (·.size) = some 10 := by kernel_rfl
def zF : Array Value := ((List.replicate 10 (0 : Int)).map iv).toArray
theorem zeroF (w : World) : (zeroValue 76).run Tryd.prog w = .ok (.agg zF) w := by kernel_rfl
theorem ivF_size {d : List Int} (h : d.length = 10) : (Tryd.prog.info? 76).map (·.size) = some (d.map iv).toArray.size := by rw [sizeF]; simp [h]
theorem ivF_old {d : List Int} (h : d.length = 10) : zF.size = (d.map iv).toArray.size := by simp [h]; rfl
theorem ivF_all (d : List Int) : (d.map iv).toArray.all (·.oneCell') = true := all_oneCell_toArray (ivs_cell _)
/-- So many rounds. -/
def itF (d : List Int) : Nat → List Int
  | 0 => d
  | k + 1 => rF (itF d k)
theorem itF_length {d : List Int} (h : d.length = 10) (k : Nat) : (itF d k).length = 10 := by
  cases k with
  | zero => exact h
  | succ k => exact rF_length _
theorem itF_bound {d : List Int} (hl : d.length = 10) (h : ∀ x ∈ d, -2305843009213693952 ≤ x ∧ x ≤ 2305843009213693952) (k : Nat) : ∀ x ∈ itF d k, -2305843009213693952 ≤ x ∧ x ≤ 2305843009213693952 := by
  induction k with
  | zero => exact h
  | succ k ih => exact rF_bound _ (itF_length hl k) ih
theorem round_set (D : List Int) (hl : D.length = 10) : ((rowC 67108864 D 9).set 9 ((D.getD 9 0 + carry 67108864 D 9) % 2097152)).set 0 (((rowC 67108864 D 9).set 9 ((D.getD 9 0 + carry 67108864 D 9) % 2097152)).getD 0 0 + 19 * ((D.getD 9 0 + carry 67108864 D 9) / 2097152)) = rF D := by
  obtain ⟨h1, h2⟩ := round_row D hl
  rw [h1, h2]; rfl
section
attribute [local go_sem] and26 and21
set_option maxRecDepth 100000 in
set_option maxHeartbeats 400000 in
theorem settled_any (d : List Int) (hl : d.length = 10) (hb : ∀ x ∈ d, -2305843009213693952 ≤ x ∧ x ≤ 2305843009213693952) (w : World) :
    Calls Tryd.prog 80 #[.agg (d.map iv).toArray] w fun e w' => e = .returned (.agg ((fd (stl d)).map iv).toArray) ∧ Below w.heap.size w w' := by
  have hz := zeroF
  have HL := hide hl
  have HB := hide hb
  clear hl hb
  obtain ⟨M, HM⟩ : ∃ M, Hid (M = (d.map iv).toArray) := ⟨_, rfl⟩
  rw [← HM.out]
  go_enter Tryd.func80, Tryd.ntmps80
  go_wp2_with fail
  go_loopw [3] (fun i wr => ∃ (k : Nat), k ≤ 3 ∧ i = .int .i64 k ∧ Hid (wr.heap[w.heap.size]? = some (.cells ((itF d k).map iv).toArray 76 (0, 0))) ∧ Hid (wr.heap[w.heap.size + 1]? = some (.cells zF 76 (0, 0))) ∧ Hid (Below w.heap.size w wr)) (fun i _ => 3 - (intOf i).toNat)
  case atStart =>
    refine ⟨0, Nat.zero_le _, rfl, ?_, heap_alloc2_new _ _ _, by show Below _ _ _; go_grown⟩
    show _ = some (Obj.cells (d.map iv).toArray _ _)
    rw [← HM.out]; exact (heap_alloc_old _ _ (by simp)).trans (heap_alloc_new _ _)
  case round =>
    obtain ⟨k, hk, rfl, H0, H1, HBl⟩ := hrel
    by_cases hlt : k < 3
    · have bk : (k : Int) < 3 := by omega
      obtain ⟨D, HD⟩ : ∃ D, Hid (D = itF d k) := ⟨_, rfl⟩
      have HDl : Hid (D.length = 10) := by rw [HD.out]; exact itF_length HL.out k
      have HDb : Hid (∀ x ∈ D, -2305843009213693952 ≤ x ∧ x ≤ 2305843009213693952) := by rw [HD.out]; exact itF_bound HL.out HB.out k
      rw [← HD.out] at H0
      clear hz
      go_wp2_with fail
      go_loopw [4, 5] (fun c i wr => ∃ (j : Nat) (z : Int), j ≤ 9 ∧ i = .int .i64 j ∧ c = .int .i64 z ∧ Hid (z = carry 67108864 D j) ∧ Hid (wr.heap[w.heap.size]? = some (.cells ((rowC 67108864 D j).map iv).toArray 76 (0, 0))) ∧ Hid (wr.heap[w.heap.size + 1]? = some (.cells zF 76 (0, 0))) ∧ Hid (Below w.heap.size w wr)) (fun _ i _ => 9 - (intOf i).toNat)
      case atStart => exact ⟨0, 0, Nat.zero_le _, rfl, rfl, rfl, by rw [rowC_zero]; exact H0, H1, HBl⟩
      case round =>
        clear H0 H1 HBl
        obtain ⟨j, z, hj, rfl, rfl, HZ, H0, H1, HBl⟩ := hrel
        have hz1 := carry_bound 67108864 (by decide) D 2305843009213693952 HDb.out (by decide) j (by rw [HDl.out]; omega)
        rw [← HZ.out] at hz1
        obtain ⟨z0, z1⟩ := hz1
        by_cases hj9 : j < 9
        · have bj : (j : Int) < 9 := by omega
          have c0 := ivs_get H0.out j (by rw [rowC_length, HDl.out]; omega)
          rw [rowC_get _ _ _ (by rw [HDl.out]; omega)] at c0
          have f0 := frozen_of_row wr w.heap.size j _ _ H0.out
          obtain ⟨x, HX⟩ : ∃ x, Hid (x = D.getD j 0) := ⟨_, rfl⟩
          rw [← HX.out] at c0
          have hx := HDb.out _ (getD_mem (l := D) (i := j) (by rw [HDl.out]; omega))
          rw [← HX.out] at hx
          obtain ⟨x0, x1⟩ := hx
          have hw1 : IntKind.i64.wrap (x + z) = x + z := by rw [IntKind.wrap_i64]; omega
          go_wp2_with fail
          refine ⟨⟨j + 1, (x + z) / 67108864, by omega, by go_num, rfl, ?_, ?_, far_row _ _ H1.out (by omega), HBl.out.setCell (by show _ ≤ _; exact Nat.le_refl _) _⟩, by simp [intOf]; omega⟩
          · show _ = _; simp only [carry]; rw [← HX.out, ← HZ.out]
          · show _ = _
            rw [← rowC_step _ _ _ (by rw [HDl.out]; omega), List.map_set, ← HX.out, ← HZ.out]
            exact row_store H0.out j _
        · obtain rfl : j = 9 := by omega
          have bj : (9 : Int) ≤ ((9 : Nat) : Int) := by omega
          have c0 := ivs_get H0.out 9 (by rw [rowC_length, HDl.out]; decide)
          rw [rowC_get _ _ _ (by rw [HDl.out]; decide)] at c0
          have f0 := frozen_of_row wr w.heap.size 9 _ _ H0.out
          obtain ⟨x, HX⟩ : ∃ x, Hid (x = D.getD 9 0) := ⟨_, rfl⟩
          rw [← HX.out] at c0
          have hx := HDb.out _ (getD_mem (l := D) (i := 9) (by rw [HDl.out]; decide))
          rw [← HX.out] at hx
          obtain ⟨x0, x1⟩ := hx
          have hw1 : IntKind.i64.wrap (x + z) = x + z := by rw [IntKind.wrap_i64]; omega
          obtain ⟨R, HR⟩ : ∃ R, Hid (R = (rowC 67108864 D 9).set 9 ((x + z) % 2097152)) := ⟨_, rfl⟩
          have H2 : Hid ((wr.setCell ⟨w.heap.size, 9, none⟩ (iv ((x + z) % 2097152))).heap[w.heap.size]? = some (.cells (R.map iv).toArray 76 (0, 0))) := by
            rw [HR.out, List.map_set]; exact row_store H0.out 9 _
          have H3 : Hid ((wr.setCell ⟨w.heap.size, 9, none⟩ (iv ((x + z) % 2097152))).heap[w.heap.size + 1]? = some (.cells zF 76 (0, 0))) := far_row _ _ H1.out (by omega)
          have H4 : Hid (Below w.heap.size w (wr.setCell ⟨w.heap.size, 9, none⟩ (iv ((x + z) % 2097152)))) := HBl.out.setCell (by show _ ≤ _; exact Nat.le_refl _) _
          go_upto_region 13 with fail
          obtain ⟨W2, hW2⟩ : ∃ W2, W2 = wr.setCell ⟨w.heap.size, 9, none⟩ (iv ((x + z) % 2097152)) := ⟨_, rfl⟩
          rw [← hW2] at H2 H3 H4 ⊢
          clear hW2 c0 f0 H0 H1 HBl
          have HRF : Hid (R.set 0 (R.getD 0 0 + 19 * ((x + z) / 2097152)) = rF D) := by
            show _ = _
            rw [HR.out, HX.out, HZ.out]; exact round_set D HDl.out
          have HRl : Hid (R.length = 10) := by show _ = _; rw [HR.out, List.length_set, rowC_length]; exact HDl.out
          have HRb : Hid (0 ≤ R.getD 0 0 ∧ R.getD 0 0 < 67108864) := by
            have h1 := (round_row D HDl.out).1
            rw [← HX.out, ← HZ.out, ← HR.out] at h1
            rw [h1]
            exact dB_lt 67108864 (by decide) 10 _ _ (getD_mem (by rw [dB_length]; decide))
          have c0 := ivs_get H2.out 0 (by rw [HRl.out]; decide)
          have f0 := frozen_of_row W2 w.heap.size 0 _ _ H2.out
          obtain ⟨y, HY⟩ : ∃ y, Hid (y = R.getD 0 0) := ⟨_, rfl⟩
          rw [← HY.out] at c0 HRb HRF
          obtain ⟨y0, y1⟩ := HRb.out
          obtain ⟨q, HQ⟩ : ∃ q, Hid (q = (x + z) / 2097152) := ⟨_, rfl⟩
          have hq : -2199023255552 ≤ q ∧ q ≤ 2199023255552 := by rw [HQ.out]; omega
          obtain ⟨q0, q1⟩ := hq
          rw [← HQ.out] at HRF
          have hqe : (x + z) / 2097152 = q := HQ.out.symm
          have hw2 : IntKind.i64.wrap (19 * q) = 19 * q := by rw [IntKind.wrap_i64]; omega
          have hw3 : IntKind.i64.wrap (y + 19 * q) = y + 19 * q := by rw [IntKind.wrap_i64]; omega
          clear x0 x1 z0 z1 hw1 HRb
          go_wp2_with fail
          refine ⟨⟨k + 1, by omega, by go_num, ?_, far_row _ _ H3.out (by omega), H4.out.setCell (by show _ ≤ _; exact Nat.le_refl _) _⟩, by simp [intOf]; omega⟩
          show _ = some (Obj.cells ((rF (itF d k)).map iv).toArray _ _)
          rw [← HD.out, ← HRF.out, List.map_set]
          exact row_store H2.out 0 _
    · obtain rfl : k = 3 := by omega
      have bk : (3 : Int) ≤ ((3 : Nat) : Int) := by omega
      obtain ⟨D, HD⟩ : ∃ D, Hid (D = dB 67108864 10 (V2 d)) := ⟨_, rfl⟩
      have HT := third d HL.out HB.out
      have H0' : Hid (wr.heap[w.heap.size]? = some (.cells (D.map iv).toArray 76 (0, 0))) := by
        have e := H0.out
        rw [show itF d 3 = dB 67108864 10 (V2 d) from HT, ← HD.out] at e
        exact e
      have HDl : Hid (D.length = 10) := by rw [HD.out]; exact dB_length _ _ _
      have HDb : Hid (∀ x ∈ D, 0 ≤ x ∧ x < 67108864) := by rw [HD.out]; exact dB_lt _ (by decide) _ _
      have HE := hide (settled_end d HL.out HB.out)
      rw [← HD.out] at HE
      have c9 := ivs_get H0'.out 9 (by rw [HDl.out]; decide)
      have c0 := ivs_get H0'.out 0 (by rw [HDl.out]; decide)
      obtain ⟨x9, HX9⟩ : ∃ x, Hid (x = D.getD 9 0) := ⟨_, rfl⟩
      obtain ⟨x0, HX0⟩ : ∃ x, Hid (x = D.getD 0 0) := ⟨_, rfl⟩
      rw [← HX9.out] at c9
      rw [← HX0.out] at c0
      have hcase : ((x9 == 2097151) = true ∧ decide (67108845 ≤ x0) = true ∧ isW D 0 = true) ∨ ((x9 == 2097151) = true ∧ decide (67108845 ≤ x0) = false ∧ isW D 0 = false) ∨ ((x9 == 2097151) = false ∧ x0 = x0 ∧ isW D 0 = false) := by
        simp only [isW, ← HX9.out, ← HX0.out]
        by_cases h9 : x9 = 2097151
        · by_cases h0 : 67108845 ≤ x0
          · exact .inl ⟨by simp [h9], by simp [h0], by simp [h9, h0]⟩
          · exact .inr (.inl ⟨by simp [h9], by simp [h0], by simp [h9, h0]⟩)
        · exact .inr (.inr ⟨by simp [h9], by simp, by simp [h9]⟩)
      clear HT H0 hlt hk HL HB HD
      rcases hcase with ⟨hb9, hx0, hW⟩ | ⟨hb9, hx0, hW⟩ | ⟨hb9, hx0, hW⟩
      all_goals (
        have HW0 := hide hW
        clear hW
        go_wp2_with fail
        clear hb9 hx0 c9 c0
        go_loopw [8, 9] (fun b i wr => ∃ (j : Nat), j ≤ 8 ∧ i = .int .i64 ((j + 1 : Nat) : Int) ∧ b = .bool (isW D j) ∧ Hid (wr.heap[w.heap.size]? = some (.cells (D.map iv).toArray 76 (0, 0))) ∧ Hid (wr.heap[w.heap.size + 1]? = some (.cells zF 76 (0, 0))) ∧ Hid (Below w.heap.size w wr)) (fun _ i _ => 9 - (intOf i).toNat)
        case atStart => exact ⟨0, Nat.zero_le _, rfl, by rw [HW0.out], H0', H1, HBl⟩
        case round =>
          clear H0' H1 HBl
          obtain ⟨j, hj, rfl, rfl, H0, H1, HBl⟩ := hrel
          by_cases hj8 : j < 8
          · have bj : ((j + 1 : Nat) : Int) < 9 := by omega
            have c0 := ivs_get H0.out (j + 1) (by rw [HDl.out]; omega)
            obtain ⟨x, HX⟩ : ∃ x, Hid (x = D.getD (j + 1) 0) := ⟨_, rfl⟩
            rw [← HX.out] at c0
            have hc : (isW D j = true ∧ (x == 67108863) = true ∧ isW D (j + 1) = true) ∨ (isW D j = true ∧ (x == 67108863) = false ∧ isW D (j + 1) = false) ∨ (isW D j = false ∧ x = x ∧ isW D (j + 1) = false) := by
              simp only [isW, ← HX.out]
              by_cases h1 : isW D j = true
              · by_cases h2 : x = 67108863
                · exact .inl ⟨h1, by simp [h2], by simp [h1, h2]⟩
                · exact .inr (.inl ⟨h1, by simp [h2], by simp [h1, h2]⟩)
              · exact .inr (.inr ⟨by simpa using h1, by simp, by simp [h1]⟩)
            rcases hc with ⟨h1, h2, h3⟩ | ⟨h1, h2, h3⟩ | ⟨h1, h2, h3⟩
            all_goals (
              rw [h1]
              have H3 := hide h3
              clear h3 h1
              go_wp2_with fail
              exact ⟨⟨j + 1, by omega, by go_num, by rw [H3.out], H0, H1, HBl⟩, by simp [intOf]; omega⟩)
          · obtain rfl : j = 8 := by omega
            have bj : (9 : Int) ≤ ((8 + 1 : Nat) : Int) := by omega
            obtain ⟨R, HR⟩ : ∃ R, Hid (R = ((fd (stl d)).map iv).toArray) := ⟨_, rfl⟩
            have HSz : Hid ((Tryd.prog.info? 76).map (·.size) = some R.size) := by show _ = _; rw [HR.out]; exact ivF_size (fd_length _)
            have HO : Hid (zF.size = R.size) := by show _ = _; rw [HR.out]; exact ivF_old (fd_length _)
            have HA : Hid (R.all (·.oneCell') = true) := by rw [HR.out]; exact ivF_all _
            cases hw8 : isW D 8
            · have HRD : Hid (R = (D.map iv).toArray) := by show _ = _; rw [HR.out, ← HE.out.2 hw8]
              rw [← HRD.out] at H0
              clear hw8
              go_wp2_with (first | (refine wpList_load_row (by rfl) 76 (.tmp 1) (by rfl) w.heap.size (by rfl) 76 R (0, 0) _ H0.out underF rfl HSz.out ?_) | (refine wpList_store_row (by rfl) 76 (.tmp 2) (.tmp 67) (by rfl) (w.heap.size + 1) R (by rfl) (by rfl) 76 _ H1.out HSz.out HO.out HA.out ?_))
              refine bodyPost_ret (v := .agg R) (results_cell_row Tryd.results80 _ _ (w.heap.size + 1) 76 R (0, 0) _ (by rfl) (setRow_heap _ _ _ _ _ _ H1.out) underF rfl HSz.out) rfl ⟨by rw [HR.out], below_setRow HBl.out (by omega) _⟩
            · have HRE := HE.out.1 hw8
              rw [← HX0.out] at HRE
              have HRD : Hid (#[iv (x0 - 67108845), iv 0, iv 0, iv 0, iv 0, iv 0, iv 0, iv 0, iv 0, iv 0] = R) := by show _ = _; rw [HR.out, ← HRE]; rfl
              clear HRE hw8
              have c0 := ivs_get H0.out 0 (by rw [HDl.out]; decide)
              have hx := HDb.out _ (getD_mem (l := D) (i := 0) (by rw [HDl.out]; decide))
              rw [← HX0.out] at c0 hx
              obtain ⟨xa, xb⟩ := hx
              have hw1 : IntKind.i64.wrap (x0 - 67108845) = x0 - 67108845 := by rw [IntKind.wrap_i64]; omega
              go_wp2_with (first | (refine wpList_store_row (by rfl) 76 (.tmp 2) (.tmp 66) (by rfl) (w.heap.size + 1) #[iv (x0 - 67108845), iv 0, iv 0, iv 0, iv 0, iv 0, iv 0, iv 0, iv 0, iv 0] (by rfl) (by rfl) 76 _ H1.out (by rw [HRD.out]; exact HSz.out) (by rw [HRD.out]; exact HO.out) (by rw [HRD.out]; exact HA.out) ?_))
              rw [HRD.out]
              refine bodyPost_ret (v := .agg R) (results_cell_row Tryd.results80 _ _ (w.heap.size + 1) 76 R (0, 0) _ (by rfl) (setRow_heap _ _ _ _ _ _ H1.out) underF rfl HSz.out) rfl ⟨by rw [HR.out], below_setRow HBl.out (by omega) _⟩)
end
end Go.Proofs.YtemdlpcljjdfjaaDoor
/- The document's answer: add, sub (genref2.py). -/
namespace Go.Proofs.YtemdlpcljjdfjaaDoor
open Go.RowKit
abbrev fF (n : Nat) : Value := .agg ((fd n).map iv).toArray
theorem far_drew {w : World} {g g' : Nat} {o : Obj} (i : Nat) (v : Value) (h : w.heap[g]? = some o) (hne : g ≠ g') : (w.setCell ⟨g', i, none⟩ v).drew.heap[g]? = some o :=
  (Below.heap_setCell w _ v g hne).trans h
theorem fd_abs (n : Nat) (m : Int) (hm : m = 1 ∨ m = -1) : ∀ x ∈ fd n, -67108864 ≤ m * x ∧ m * x ≤ 67108864 := by
  intro x hx
  have := fd_lt n x hx
  rcases hm with rfl | rfl <;> omega
theorem fd_abs' (n : Nat) : ∀ x ∈ fd n, -67108864 ≤ x ∧ x ≤ 67108864 := by
  intro x hx
  have := fd_lt n x hx
  omega
section
set_option maxRecDepth 100000 in
set_option maxHeartbeats 400000 in
theorem refAdd (a b : Nat) (ha : a < P) (hb : b < P) (w : World) :
    Calls Tryd.prog 61 #[fF a, fF b] w fun e w' => e = .returned (fF (aP a b)) ∧ Below w.heap.size w w' := by
  have hz := zeroF
  obtain ⟨M, HM⟩ : ∃ M, Hid (M = ((fd a).map iv).toArray) := ⟨_, rfl⟩
  obtain ⟨N, HN⟩ : ∃ N, Hid (N = ((fd b).map iv).toArray) := ⟨_, rfl⟩
  obtain ⟨A, HA⟩ : ∃ A, Hid (A = fd a) := ⟨_, rfl⟩
  obtain ⟨B, HB⟩ : ∃ B, Hid (B = fd b) := ⟨_, rfl⟩
  have HAl : Hid (A.length = 10) := by rw [HA.out]; exact fd_length a
  have HBl : Hid (B.length = 10) := by rw [HB.out]; exact fd_length b
  have HAb : Hid (∀ x ∈ A, 0 ≤ x ∧ x < 67108864) := by rw [HA.out]; exact fd_lt a
  have HBb : Hid (∀ x ∈ B, 0 ≤ x ∧ x < 67108864) := by rw [HB.out]; exact fd_lt b
  have HS : Hid (stl (addM 1 A B 10) = aP a b) := by
    refine stl_add a b _ ?_
    have e := addM_all 67108864 1 A B (by rw [HAl.out, HBl.out])
    rw [HAl.out] at e
    rw [e, HA.out, HB.out, fd_val a ha, fd_val b hb]; omega
  have HSl : Hid ((addM 1 A B 10).length = 10) := by show _ = _; rw [addM_length]; exact HAl.out
  have HSb : Hid (∀ x ∈ addM 1 A B 10, -2305843009213693952 ≤ x ∧ x ≤ 2305843009213693952) :=
    addM_bound 1 A B 10 (by rw [HAl.out, HBl.out]) 67108864 67108864 _ (by rw [HA.out]; exact fd_abs' a) (by rw [HB.out]; exact fd_abs b _ (by decide)) (by decide) (by decide)
  show Calls _ _ #[.agg ((fd a).map iv).toArray, .agg ((fd b).map iv).toArray] w _
  rw [← HM.out, ← HN.out]
  rw [← HA.out] at HM
  rw [← HB.out] at HN
  clear ha hb
  go_enter Tryd.func61, Tryd.ntmps61
  go_wp2_with fail
  go_loopw [5] (fun i wr => ∃ (k : Nat), k ≤ 10 ∧ i = .int .i64 k ∧ Hid (wr.heap[w.heap.size]? = some (.cells ((addM 1 A B k).map iv).toArray 76 (0, 0))) ∧ Hid (wr.heap[w.heap.size + 1]? = some (.cells (B.map iv).toArray 76 (0, 0))) ∧ Hid (wr.heap[w.heap.size + 2]? = some (.cells zF 76 (0, 0))) ∧ Hid (Below w.heap.size w wr)) (fun i _ => 10 - (intOf i).toNat)
  case atStart => exact ⟨0, Nat.zero_le _, rfl, by rw [addM_zero, ← HM.out]; exact heap3_0 _ _ _ _, by rw [← HN.out]; exact heap3_1 _ _ _ _, heap3_2 _ _ _ _, by show Below _ _ _; go_grown⟩
  case round =>
    obtain ⟨k, hk, rfl, H0, H1, H2, HBw⟩ := hrel
    by_cases hlt : k < 10
    · have bk : (k : Int) < 10 := by omega
      have c0 := ivs_get H0.out k (by rw [addM_length, HAl.out]; exact hlt)
      rw [addM_get _ _ _ _ (by rw [HAl.out]; exact hlt)] at c0
      have c1 := ivs_get H1.out k (by rw [HBl.out]; exact hlt)
      have f0 := frozen_of_row wr w.heap.size k _ _ H0.out
      obtain ⟨x, HX⟩ : ∃ x, Hid (x = A.getD k 0) := ⟨_, rfl⟩
      obtain ⟨y, HY⟩ : ∃ y, Hid (y = B.getD k 0) := ⟨_, rfl⟩
      rw [← HX.out] at c0
      rw [← HY.out] at c1
      have hx := HAb.out _ (getD_mem (l := A) (i := k) (by rw [HAl.out]; exact hlt))
      have hy := HBb.out _ (getD_mem (l := B) (i := k) (by rw [HBl.out]; exact hlt))
      rw [← HX.out] at hx
      rw [← HY.out] at hy
      obtain ⟨x0, x1⟩ := hx
      obtain ⟨y0, y1⟩ := hy
      have hw1 : IntKind.i64.wrap (x + y) = x + y := by rw [IntKind.wrap_i64]; omega
      clear hz
      go_wp2_with fail
      go_region
      go_wp2_with fail
      refine ⟨⟨k + 1, by omega, by go_num, ?_, far_drew _ _ H1.out (by omega), far_drew _ _ H2.out (by omega), (HBw.out.setCell (by show _ ≤ _; exact Nat.le_refl _) _).drew⟩, by simp [intOf]; omega⟩
      show _ = _
      rw [← addM_step _ _ _ _ (by rw [HAl.out]; exact hlt), List.map_set, ← HX.out, ← HY.out, show x + 1 * y = x + y by omega]
      exact row_store H0.out k _
    · obtain rfl : k = 10 := by omega
      have bk : (10 : Int) ≤ ((10 : Nat) : Int) := by omega
      obtain ⟨S, HSe⟩ : ∃ S, Hid (S = addM 1 A B 10) := ⟨_, rfl⟩
      rw [← HSe.out] at H0 HS HSl HSb
      have HSz := hide (ivF_size HSl.out)
      clear hz hlt hk
      go_wp2_with (first | (refine wpList_load_row (by rfl) 76 (.tmp 2) (by rfl) w.heap.size (by rfl) 76 (S.map iv).toArray (0, 0) _ H0.out underF rfl HSz.out ?_))
      refine (settled_any S HSl.out HSb.out _).mono ?_
      rintro e W1 ⟨rfl, hB1⟩
      have hlt1 := lt_row H2.out
      have H2b : Hid (W1.heap[w.heap.size + 2]? = some (.cells zF 76 (0, 0))) := row_below H2.out hB1 hlt1
      have HB2 : Hid (Below w.heap.size w W1) := HBw.out.trans (hB1.mono (by omega))
      rw [HS.out]
      obtain ⟨R, HR⟩ : ∃ R, Hid (R = ((fd (aP a b)).map iv).toArray) := ⟨_, rfl⟩
      rw [← HR.out]
      have HRz : Hid ((Tryd.prog.info? 76).map (·.size) = some R.size) := by show _ = _; rw [HR.out]; exact ivF_size (fd_length _)
      have HRo : Hid (zF.size = R.size) := by show _ = _; rw [HR.out]; exact ivF_old (fd_length _)
      have HRa : Hid (R.all (·.oneCell') = true) := by rw [HR.out]; exact ivF_all _
      clear hB1 hlt1 H0 H1 H2 HSz
      go_wp2_with (first | (refine wpList_store_row (by rfl) 76 (.tmp 4) (.tmp 20) (by rfl) (w.heap.size + 2) R (by rfl) (by rfl) 76 _ H2b.out HRz.out HRo.out HRa.out ?_))
      refine bodyPost_ret (v := .agg R) (results_cell_row Tryd.results61 _ _ (w.heap.size + 2) 76 R (0, 0) _ (by rfl) (setRow_heap _ _ _ _ _ _ H2b.out) underF rfl HRz.out) rfl ⟨by rw [HR.out], below_setRow HB2.out (by omega) _⟩
end
section
set_option maxRecDepth 100000 in
set_option maxHeartbeats 400000 in
theorem refSub (a b : Nat) (ha : a < P) (hb : b < P) (w : World) :
    Calls Tryd.prog 57 #[fF a, fF b] w fun e w' => e = .returned (fF (sP a b)) ∧ Below w.heap.size w w' := by
  have hz := zeroF
  obtain ⟨M, HM⟩ : ∃ M, Hid (M = ((fd a).map iv).toArray) := ⟨_, rfl⟩
  obtain ⟨N, HN⟩ : ∃ N, Hid (N = ((fd b).map iv).toArray) := ⟨_, rfl⟩
  obtain ⟨A, HA⟩ : ∃ A, Hid (A = fd a) := ⟨_, rfl⟩
  obtain ⟨B, HB⟩ : ∃ B, Hid (B = fd b) := ⟨_, rfl⟩
  have HAl : Hid (A.length = 10) := by rw [HA.out]; exact fd_length a
  have HBl : Hid (B.length = 10) := by rw [HB.out]; exact fd_length b
  have HAb : Hid (∀ x ∈ A, 0 ≤ x ∧ x < 67108864) := by rw [HA.out]; exact fd_lt a
  have HBb : Hid (∀ x ∈ B, 0 ≤ x ∧ x < 67108864) := by rw [HB.out]; exact fd_lt b
  have HS : Hid (stl (addM (-1) A B 10) = sP a b) := by
    refine stl_sub a b hb _ ?_
    have e := addM_all 67108864 (-1) A B (by rw [HAl.out, HBl.out])
    rw [HAl.out] at e
    rw [e, HA.out, HB.out, fd_val a ha, fd_val b hb]; omega
  have HSl : Hid ((addM (-1) A B 10).length = 10) := by show _ = _; rw [addM_length]; exact HAl.out
  have HSb : Hid (∀ x ∈ addM (-1) A B 10, -2305843009213693952 ≤ x ∧ x ≤ 2305843009213693952) :=
    addM_bound (-1) A B 10 (by rw [HAl.out, HBl.out]) 67108864 67108864 _ (by rw [HA.out]; exact fd_abs' a) (by rw [HB.out]; exact fd_abs b _ (by decide)) (by decide) (by decide)
  show Calls _ _ #[.agg ((fd a).map iv).toArray, .agg ((fd b).map iv).toArray] w _
  rw [← HM.out, ← HN.out]
  rw [← HA.out] at HM
  rw [← HB.out] at HN
  clear ha hb
  go_enter Tryd.func57, Tryd.ntmps57
  go_wp2_with fail
  go_loopw [5] (fun i wr => ∃ (k : Nat), k ≤ 10 ∧ i = .int .i64 k ∧ Hid (wr.heap[w.heap.size]? = some (.cells ((addM (-1) A B k).map iv).toArray 76 (0, 0))) ∧ Hid (wr.heap[w.heap.size + 1]? = some (.cells (B.map iv).toArray 76 (0, 0))) ∧ Hid (wr.heap[w.heap.size + 2]? = some (.cells zF 76 (0, 0))) ∧ Hid (Below w.heap.size w wr)) (fun i _ => 10 - (intOf i).toNat)
  case atStart => exact ⟨0, Nat.zero_le _, rfl, by rw [addM_zero, ← HM.out]; exact heap3_0 _ _ _ _, by rw [← HN.out]; exact heap3_1 _ _ _ _, heap3_2 _ _ _ _, by show Below _ _ _; go_grown⟩
  case round =>
    obtain ⟨k, hk, rfl, H0, H1, H2, HBw⟩ := hrel
    by_cases hlt : k < 10
    · have bk : (k : Int) < 10 := by omega
      have c0 := ivs_get H0.out k (by rw [addM_length, HAl.out]; exact hlt)
      rw [addM_get _ _ _ _ (by rw [HAl.out]; exact hlt)] at c0
      have c1 := ivs_get H1.out k (by rw [HBl.out]; exact hlt)
      have f0 := frozen_of_row wr w.heap.size k _ _ H0.out
      obtain ⟨x, HX⟩ : ∃ x, Hid (x = A.getD k 0) := ⟨_, rfl⟩
      obtain ⟨y, HY⟩ : ∃ y, Hid (y = B.getD k 0) := ⟨_, rfl⟩
      rw [← HX.out] at c0
      rw [← HY.out] at c1
      have hx := HAb.out _ (getD_mem (l := A) (i := k) (by rw [HAl.out]; exact hlt))
      have hy := HBb.out _ (getD_mem (l := B) (i := k) (by rw [HBl.out]; exact hlt))
      rw [← HX.out] at hx
      rw [← HY.out] at hy
      obtain ⟨x0, x1⟩ := hx
      obtain ⟨y0, y1⟩ := hy
      have hw1 : IntKind.i64.wrap (x - y) = x - y := by rw [IntKind.wrap_i64]; omega
      clear hz
      go_wp2_with fail
      go_region
      go_wp2_with fail
      refine ⟨⟨k + 1, by omega, by go_num, ?_, far_drew _ _ H1.out (by omega), far_drew _ _ H2.out (by omega), (HBw.out.setCell (by show _ ≤ _; exact Nat.le_refl _) _).drew⟩, by simp [intOf]; omega⟩
      show _ = _
      rw [← addM_step _ _ _ _ (by rw [HAl.out]; exact hlt), List.map_set, ← HX.out, ← HY.out, show x + (-1) * y = x - y by omega]
      exact row_store H0.out k _
    · obtain rfl : k = 10 := by omega
      have bk : (10 : Int) ≤ ((10 : Nat) : Int) := by omega
      obtain ⟨S, HSe⟩ : ∃ S, Hid (S = addM (-1) A B 10) := ⟨_, rfl⟩
      rw [← HSe.out] at H0 HS HSl HSb
      have HSz := hide (ivF_size HSl.out)
      clear hz hlt hk
      go_wp2_with (first | (refine wpList_load_row (by rfl) 76 (.tmp 2) (by rfl) w.heap.size (by rfl) 76 (S.map iv).toArray (0, 0) _ H0.out underF rfl HSz.out ?_))
      refine (settled_any S HSl.out HSb.out _).mono ?_
      rintro e W1 ⟨rfl, hB1⟩
      have hlt1 := lt_row H2.out
      have H2b : Hid (W1.heap[w.heap.size + 2]? = some (.cells zF 76 (0, 0))) := row_below H2.out hB1 hlt1
      have HB2 : Hid (Below w.heap.size w W1) := HBw.out.trans (hB1.mono (by omega))
      rw [HS.out]
      obtain ⟨R, HR⟩ : ∃ R, Hid (R = ((fd (sP a b)).map iv).toArray) := ⟨_, rfl⟩
      rw [← HR.out]
      have HRz : Hid ((Tryd.prog.info? 76).map (·.size) = some R.size) := by show _ = _; rw [HR.out]; exact ivF_size (fd_length _)
      have HRo : Hid (zF.size = R.size) := by show _ = _; rw [HR.out]; exact ivF_old (fd_length _)
      have HRa : Hid (R.all (·.oneCell') = true) := by rw [HR.out]; exact ivF_all _
      clear hB1 hlt1 H0 H1 H2 HSz
      go_wp2_with (first | (refine wpList_store_row (by rfl) 76 (.tmp 4) (.tmp 20) (by rfl) (w.heap.size + 2) R (by rfl) (by rfl) 76 _ H2b.out HRz.out HRo.out HRa.out ?_))
      refine bodyPost_ret (v := .agg R) (results_cell_row Tryd.results57 _ _ (w.heap.size + 2) 76 R (0, 0) _ (by rfl) (setRow_heap _ _ _ _ _ _ H2b.out) underF rfl HRz.out) rfl ⟨by rw [HR.out], below_setRow HB2.out (by omega) _⟩
end
end Go.Proofs.YtemdlpcljjdfjaaDoor
