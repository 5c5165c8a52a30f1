import Derived.Test.YtemdlpcljjdfjaaDoorRefMul
import Derived.Test.YtemdlpcljjdfjaaDoorLong
/- The document's answer: small, power, ones. -/
namespace Go.Proofs.YtemdlpcljjdfjaaDoor
open Go.RowKit
def fA (n : Nat) : Array Value := ((fd n).map iv).toArray
theorem fA_size (n : Nat) : (Tryd.prog.info? 76).map (·.size) = some (fA n).size := ivF_size (fd_length n)
theorem fA_len (n : Nat) : (fA n).size = 10 := by simp [fA, fd_length]
theorem fA_old (m n : Nat) : (fA m).size = (fA n).size := by rw [fA_len, fA_len]
theorem fA_all (n : Nat) : (fA n).all (·.oneCell') = true := ivF_all _
theorem fd_small (n : Nat) (h : n < 67108864) : fd n = (n : Int) :: List.replicate 9 0 := by
  have hall : ∀ x ∈ (n : Int) :: List.replicate 9 (0 : Int), 0 ≤ x ∧ x < 67108864 := by
    intro x hx
    simp only [List.mem_cons, List.mem_replicate] at hx
    omega
  have e := dB_vB 67108864 (by decide) _ hall
  have e2 : vB 67108864 ((n : Int) :: List.replicate 9 0) = n := by simp [vB]
  rw [e2] at e
  exact e
theorem fA_small (n : Nat) (h : n < 67108864) : fA n = #[iv n, iv 0, iv 0, iv 0, iv 0, iv 0, iv 0, iv 0, iv 0, iv 0] := by
  unfold fA; rw [fd_small n h]; rfl
theorem zF_A : zF = fA 0 := (fA_small 0 (by decide)).symm
theorem zeroFA (w : World) : (zeroValue 76).run Tryd.prog w = .ok (.agg (fA 0)) w := by rw [← zF_A]; exact zeroF w
theorem mulA (a b : Nat) (ha : a < P) (hb : b < P) (w : World) :
    Calls Tryd.prog 56 #[.agg (fA a), .agg (fA b)] w fun e w' => e = .returned (.agg (fA (mP a b))) ∧ Below w.heap.size w w' := refMul a b ha hb w
theorem addA (a b : Nat) (ha : a < P) (hb : b < P) (w : World) :
    Calls Tryd.prog 61 #[.agg (fA a), .agg (fA b)] w fun e w' => e = .returned (.agg (fA (aP a b))) ∧ Below w.heap.size w w' := refAdd a b ha hb w
theorem subA' (a b : Nat) (ha : a < P) (hb : b < P) (w : World) :
    Calls Tryd.prog 57 #[.agg (fA a), .agg (fA b)] w fun e w' => e = .returned (.agg (fA (sP a b))) ∧ Below w.heap.size w w' := refSub a b ha hb w
theorem row_keep' {w w' : World} {g : Nat} {o : Obj} (h : w.heap[g]? = some o) (hb : Below w.heap.size w w') : w'.heap[g]? = some o := (hb.block g (lt_row h)).trans h
section
attribute [local irreducible] fA
set_option maxRecDepth 100000 in
set_option maxHeartbeats 400000 in
theorem smallA (n : Nat) (h : n < 67108864) (w : World) :
    Calls Tryd.prog 58 #[.int .i64 n] w fun e w' => e = .returned (.agg (fA n)) ∧ Below w.heap.size w w' := by
  have hz := zeroF
  have HF := hide (fA_small n h)
  have HS := hide (fA_size n)
  have HO : Hid (zF.size = (fA n).size) := by rw [zF_A]; exact fA_old _ _
  have HA := hide (fA_all n)
  obtain ⟨R, HR⟩ : ∃ R, Hid (R = fA n) := ⟨_, rfl⟩
  rw [← HR.out] at HS HO HA HF ⊢
  obtain ⟨z, HZ⟩ : ∃ z : Int, Hid (z = n) := ⟨_, rfl⟩
  rw [← HZ.out] at HF ⊢
  have h3 : z % 67108864 = z := by rw [HZ.out]; omega
  have h4 : z / 67108864 = 0 := by rw [HZ.out]; omega
  have h5 : z < 67108864 := by rw [HZ.out]; omega
  have h6 : 0 ≤ z := by rw [HZ.out]; omega
  have h1 : Int.tmod z 67108864 = z := by rw [Int.tmod_eq_emod_of_nonneg h6, h3]
  have h2 : Int.tdiv z 67108864 = 0 := by rw [Int.tdiv_eq_ediv_of_nonneg h6, h4]
  clear h
  go_enter Tryd.func58, Tryd.ntmps58
  go_wp2_with (first | (refine wpList_store_row (by rfl) 76 (.tmp 2) (.tmp 7) (by rfl) w.heap.size #[iv z, iv 0, iv 0, iv 0, iv 0, iv 0, iv 0, iv 0, iv 0, iv 0] (by rfl) (by rfl) 76 _ (heap_alloc_new _ _) (by rw [← HF.out]; exact HS.out) (by rw [← HF.out]; exact HO.out) (by rw [← HF.out]; exact HA.out) ?_))
  rw [← HF.out]
  exact bodyPost_ret (v := .agg R) (results_cell_row Tryd.results58 _ _ w.heap.size 76 R (0, 0) _ (by rfl) (setRow_heap _ _ _ _ _ _ (heap_alloc_new _ _)) underF rfl HS.out) rfl ⟨rfl, below_setRow ((Below.refl _ _).alloc (Nat.le_refl _) _) (Nat.le_refl _) _⟩
end
section
attribute [local irreducible] fA
set_option maxRecDepth 100000 in
set_option maxHeartbeats 400000 in
theorem powerA (a k b : Nat) (ha : a < P) (hb : b < P) (hk : k ≤ 1000) (w : World) :
    Calls Tryd.prog 82 #[.agg (fA a), .int .i64 k, .agg (fA b)] w fun e w' => e = .returned (.agg (fA (mP (sqN k a) b))) ∧ Below w.heap.size w w' := by
  have hz := zeroFA
  have Ha := hide ha
  have Hb := hide hb
  clear ha hb
  go_enter Tryd.func82, Tryd.ntmps82
  go_wp2_with fail
  go_loopw [1] (fun sV wr => ∃ (j i : Nat), i + j = k ∧ sV = .int .i64 j ∧ Hid (wr.heap[w.heap.size]? = some (.cells (fA (sqN i a)) 76 (0, 0))) ∧ Hid (wr.heap[w.heap.size + 1]? = some (.cells (fA b) 76 (0, 0))) ∧ Hid (wr.heap[w.heap.size + 2]? = some (.cells (fA 0) 76 (0, 0))) ∧ Hid (Below w.heap.size w wr)) (fun s _ => (intOf s).toNat)
  case atStart => exact ⟨k, 0, by omega, rfl, heap3_0 _ _ _ _, heap3_1 _ _ _ _, heap3_2 _ _ _ _, by show Below _ _ _; go_grown⟩
  case round =>
    obtain ⟨j, i, hij, rfl, H0, H1, H2, HB⟩ := hrel
    obtain ⟨x, HX⟩ : ∃ x, Hid (x = sqN i a) := ⟨_, rfl⟩
    have Hx : Hid (x < P) := by rw [HX.out]; exact sqN_lt i a Ha.out
    rw [← HX.out] at H0
    clear hz
    by_cases hj : 0 < j
    · have bj : (0 : Int) < (j : Int) := by omega
      go_wp2_with (first | (refine wpList_load_row (by rfl) 76 (.tmp 3) (by rfl) w.heap.size (by rfl) 76 (fA x) (0, 0) _ H0.out underF rfl (fA_size _) ?_))
      refine (mulA x x Hx.out Hx.out _).mono ?_
      rintro e W1 ⟨rfl, hB1⟩
      have K0 := hide (row_keep' H0.out hB1)
      have K1 := hide (row_keep' H1.out hB1)
      have K2 := hide (row_keep' H2.out hB1)
      have hl2 := lt_row H2.out
      have KB : Hid (Below w.heap.size w W1) := HB.out.trans (hB1.mono (by omega))
      clear hB1 hl2 H0 H1 H2 HB
      go_wp2_with (first | (refine wpList_store_row (by rfl) 76 (.tmp 3) (.tmp 13) (by rfl) w.heap.size (fA (mP x x)) (by rfl) (by rfl) 76 _ K0.out (fA_size _) (fA_old _ _) (fA_all _) ?_))
      refine ⟨⟨j - 1, i + 1, by omega, by go_num, ?_, (setRow_other _ _ _ _ (by omega)).trans K1.out, (setRow_other _ _ _ _ (by omega)).trans K2.out, below_setRow KB.out (Nat.le_refl _) _⟩, by simp [intOf]; omega⟩
      show _ = _
      rw [sqN_succ, ← HX.out]
      exact setRow_heap _ _ _ _ _ _ K0.out
    · obtain rfl : j = 0 := by omega
      have bj : ((0 : Nat) : Int) ≤ 0 := by omega
      obtain rfl : i = k := by omega
      go_wp2_with (first
        | (refine wpList_load_row (by rfl) 76 (.tmp 3) (by rfl) w.heap.size (by rfl) 76 (fA x) (0, 0) _ H0.out underF rfl (fA_size _) ?_)
        | (refine wpList_load_row (by rfl) 76 (.tmp 5) (by rfl) (w.heap.size + 1) (by rfl) 76 (fA b) (0, 0) _ H1.out underF rfl (fA_size _) ?_))
      refine (mulA x b Hx.out Hb.out _).mono ?_
      rintro e W1 ⟨rfl, hB1⟩
      have K2 := hide (row_keep' H2.out hB1)
      have hl2 := lt_row H2.out
      have KB : Hid (Below w.heap.size w W1) := HB.out.trans (hB1.mono (by omega))
      clear hB1 hl2 H0 H1 H2 HB
      go_wp2_with (first | (refine wpList_store_row (by rfl) 76 (.tmp 6) (.tmp 16) (by rfl) (w.heap.size + 2) (fA (mP x b)) (by rfl) (by rfl) 76 _ K2.out (fA_size _) (fA_old _ _) (fA_all _) ?_))
      refine bodyPost_ret (v := .agg (fA (mP x b))) (results_cell_row Tryd.results82 _ _ (w.heap.size + 2) 76 _ (0, 0) _ (by rfl) (setRow_heap _ _ _ _ _ _ K2.out) underF rfl (fA_size _)) rfl ⟨by rw [HX.out], below_setRow KB.out (by omega) _⟩
/-- a to the power 2^n - 1, as the document works it out. -/
def onesN (a : Nat) : Nat → Nat
  | 0 => 1
  | n + 1 => mP (sqN 1 (onesN a n)) a
theorem onesN_lt (a n : Nat) : onesN a n < P := by
  cases n with
  | zero => exact (by decide : 1 < P)
  | succ n => exact mP_lt _ _
set_option maxRecDepth 100000 in
set_option maxHeartbeats 400000 in
theorem onesA (a k : Nat) (ha : a < P) (hk : k ≤ 1000) (w : World) :
    Calls Tryd.prog 81 #[.agg (fA a), .int .i64 k] w fun e w' => e = .returned (.agg (fA (onesN a k))) ∧ Below w.heap.size w w' := by
  have hz := zeroFA
  have Ha := hide ha
  clear ha
  go_enter Tryd.func81, Tryd.ntmps81
  go_wp2_with fail
  refine (smallA 1 (by decide) _).mono ?_
  rintro e W1 ⟨rfl, hB1⟩
  have A0 := hide (row_keep' (at2_0 w (.cells (fA a) 76) (.cells (fA 0) 76)) hB1)
  have A1 := hide (row_keep' (at2_1 w (.cells (fA a) 76) (.cells (fA 0) 76)) hB1)
  have AB : Hid (Below w.heap.size w W1) := (by go_grown : Below w.heap.size w _).trans (hB1.mono (by simp; omega))
  clear hB1
  go_wp2_with (first | (refine wpList_store_row (by rfl) 76 (.tmp 5) (.tmp 6) (by rfl) W1.heap.size (fA 1) (by rfl) (by rfl) 76 _ (heap_alloc_new _ _) (fA_size _) (fA_old _ _) (fA_all _) ?_))
  obtain ⟨q, hq⟩ : ∃ q, q = W1.heap.size := ⟨_, rfl⟩
  obtain ⟨W2, hW2⟩ : ∃ W2, W2 = (W1.alloc (.cells (fA 0) 76)).setRow W1.heap.size (fA 1) := ⟨_, rfl⟩
  have hq1 : w.heap.size + 1 < q := by rw [hq]; exact lt_row A1.out
  have B0 : Hid (W2.heap[w.heap.size]? = some (.cells (fA a) 76 (0, 0))) := by
    rw [hW2]; exact (setRow_other _ _ _ _ (by omega)).trans ((heap_alloc_old _ _ (by omega)).trans A0.out)
  have B1 : Hid (W2.heap[w.heap.size + 1]? = some (.cells (fA 0) 76 (0, 0))) := by
    rw [hW2]; exact (setRow_other _ _ _ _ (by omega)).trans ((heap_alloc_old _ _ (by omega)).trans A1.out)
  have B2 : Hid (W2.heap[q]? = some (.cells (fA 1) 76 (0, 0))) := by
    rw [hW2, hq]; exact setRow_heap _ _ _ _ _ _ (heap_alloc_new _ _)
  have BB : Hid (Below w.heap.size w W2) := by
    rw [hW2]; exact below_setRow (AB.out.alloc AB.out.size _) (by omega) _
  rw [put_none', ← hW2, ← hq]
  clear hW2 hq A0 A1 AB
  go_loopw [1] (fun sV wr => ∃ (j i : Nat), i + j = k ∧ sV = .int .i64 j ∧ Hid (wr.heap[w.heap.size]? = some (.cells (fA a) 76 (0, 0))) ∧ Hid (wr.heap[w.heap.size + 1]? = some (.cells (fA 0) 76 (0, 0))) ∧ Hid (wr.heap[q]? = some (.cells (fA (onesN a i)) 76 (0, 0))) ∧ Hid (Below w.heap.size w wr)) (fun s _ => (intOf s).toNat)
  case atStart => exact ⟨k, 0, by omega, rfl, B0, B1, B2, BB⟩
  case round =>
    clear B0 B1 B2 BB hz
    obtain ⟨j, i, hij, rfl, H0, H1, H2, HB⟩ := hrel
    obtain ⟨x, HX⟩ : ∃ x, Hid (x = onesN a i) := ⟨_, rfl⟩
    have Hx : Hid (x < P) := by rw [HX.out]; exact onesN_lt a i
    rw [← HX.out] at H2
    by_cases hj : 0 < j
    · have bj : (0 : Int) < (j : Int) := by omega
      go_wp2_with (first
        | (refine wpList_load_row (by rfl) 76 (.tmp 5) (by rfl) q (by rfl) 76 (fA x) (0, 0) _ H2.out underF rfl (fA_size _) ?_)
        | (refine wpList_load_row (by rfl) 76 (.tmp 2) (by rfl) w.heap.size (by rfl) 76 (fA a) (0, 0) _ H0.out underF rfl (fA_size _) ?_))
      refine (powerA x 1 a Hx.out Ha.out (by decide) _).mono ?_
      rintro e W1 ⟨rfl, hB1⟩
      have K0 := hide (row_keep' H0.out hB1)
      have K1 := hide (row_keep' H1.out hB1)
      have K2 := hide (row_keep' H2.out hB1)
      have hl2 := lt_row H1.out
      have KB : Hid (Below w.heap.size w W1) := HB.out.trans (hB1.mono (by omega))
      clear hB1 hl2 H0 H1 H2 HB
      go_wp2_with (first | (refine wpList_store_row (by rfl) 76 (.tmp 5) (.tmp 13) (by rfl) q (fA (mP (sqN 1 x) a)) (by rfl) (by rfl) 76 _ K2.out (fA_size _) (fA_old _ _) (fA_all _) ?_))
      refine ⟨⟨j - 1, i + 1, by omega, by go_num, (setRow_other _ _ _ _ (by omega)).trans K0.out, (setRow_other _ _ _ _ (by omega)).trans K1.out, ?_, below_setRow KB.out (by omega) _⟩, by simp [intOf]; omega⟩
      show _ = some (Obj.cells (fA (mP (sqN 1 (onesN a i)) a)) _ _)
      rw [← HX.out]
      exact setRow_heap _ _ _ _ _ _ K2.out
    · obtain rfl : j = 0 := by omega
      have bj : ((0 : Nat) : Int) ≤ 0 := by omega
      obtain rfl : i = k := by omega
      go_wp2_with (first
        | (refine wpList_load_row (by rfl) 76 (.tmp 5) (by rfl) q (by rfl) 76 (fA x) (0, 0) _ H2.out underF rfl (fA_size _) ?_)
        | (refine wpList_store_row (by rfl) 76 (.tmp 4) (.tmp 14) (by rfl) (w.heap.size + 1) (fA x) (by rfl) (by rfl) 76 _ H1.out (fA_size _) (fA_old _ _) (fA_all _) ?_))
      refine bodyPost_ret (v := .agg (fA x)) (results_cell_row Tryd.results81 _ _ (w.heap.size + 1) 76 _ (0, 0) _ (by rfl) (setRow_heap _ _ _ _ _ _ H1.out) underF rfl (fA_size _)) rfl ⟨by rw [HX.out], below_setRow HB.out (by omega) _⟩
end
end Go.Proofs.YtemdlpcljjdfjaaDoor
/- The document's answer: inverse, curve, minus1 (geninv.py). -/
namespace Go.Proofs.YtemdlpcljjdfjaaDoor
open Go.RowKit
section
attribute [local irreducible] fA
def invD (a : Nat) : Nat := mP (sqN 1 (mP (sqN 2 (mP (sqN 2 (onesN a 250)) a)) a)) a
theorem invD_lt (a : Nat) : invD a < P := mP_lt _ _
set_option maxRecDepth 100000 in
set_option maxHeartbeats 400000 in
theorem inverseA (a : Nat) (ha : a < P) (w : World) :
    Calls Tryd.prog 59 #[.agg (fA a)] w fun e w' => e = .returned (.agg (fA (invD a))) ∧ Below w.heap.size w w' := by
  have hz := zeroFA
  have Ha := hide ha
  clear ha
  go_enter Tryd.func59, Tryd.ntmps59
  go_upto_region 1 with fail
  obtain ⟨W0, hW0⟩ : ∃ W, W = (w.alloc (.cells (fA a) 76)).alloc (.cells (fA 0) 76) := ⟨_, rfl⟩
  have R0 : Hid (W0.heap[w.heap.size]? = some (.cells (fA a) 76 (0, 0))) := by rw [hW0]; exact at2_0 _ _ _
  have R1 : Hid (W0.heap[w.heap.size + 1]? = some (.cells (fA 0) 76 (0, 0))) := by rw [hW0]; exact at2_1 _ _ _
  have BL : Hid (Below w.heap.size w W0) := by rw [hW0]; show Below _ _ _; go_grown
  rw [← hW0]
  clear hW0
  go_wp2_with (first | (refine wpList_load_row (by rfl) 76 (.tmp 1) (by rfl) (w.heap.size) (by rfl) 76 (fA a) (0, 0) _ R0.out underF rfl (fA_size _) ?_))
  refine (onesA a 250 Ha.out (by decide) _).mono ?_
  rintro e W1 ⟨rfl, hB1⟩
  have R0 := hide (row_keep' R0.out hB1)
  have R1 := hide (row_keep' R1.out hB1)
  have BL : Hid (Below w.heap.size w W1) := BL.out.trans (hB1.mono BL.out.size)
  clear hB1
  obtain ⟨x1, Ex1⟩ : ∃ x, Hid (x = onesN a 250) := ⟨_, rfl⟩
  have Hx1 : Hid (x1 < P) := by rw [Ex1.out]; exact onesN_lt _ _
  rw [← Ex1.out]
  go_upto_region 2 with (first | (refine wpList_store_row (by rfl) 76 (.tmp 3) (.tmp 5) (by rfl) W1.heap.size (fA x1) (by rfl) (by rfl) 76 _ (heap_alloc_new _ _) (fA_size _) (fA_old _ _) (fA_all _) ?_))
  obtain ⟨q, hq⟩ : ∃ q, q = W1.heap.size := ⟨_, rfl⟩
  obtain ⟨W2, hW2⟩ : ∃ W, W = (W1.alloc (.cells (fA 0) 76)).setRow W1.heap.size (fA x1) := ⟨_, rfl⟩
  have lR0q : w.heap.size < q := by rw [hq]; exact lt_row R0.out
  have lR1q : w.heap.size + 1 < q := by rw [hq]; exact lt_row R1.out
  have R0' : Hid (W2.heap[w.heap.size]? = some (.cells (fA a) 76 (0, 0))) := by rw [hW2]; exact (setRow_other _ _ _ _ (by omega)).trans ((heap_alloc_old _ _ (by omega)).trans R0.out)
  have R1' : Hid (W2.heap[w.heap.size + 1]? = some (.cells (fA 0) 76 (0, 0))) := by rw [hW2]; exact (setRow_other _ _ _ _ (by omega)).trans ((heap_alloc_old _ _ (by omega)).trans R1.out)
  have R2 : Hid (W2.heap[q]? = some (.cells (fA x1) 76 (0, 0))) := by rw [hW2, hq]; exact setRow_heap _ _ _ _ _ _ (heap_alloc_new _ _)
  have BL' : Hid (Below w.heap.size w W2) := by rw [hW2]; exact below_setRow (BL.out.alloc BL.out.size _) BL.out.size _
  rw [← hW2, ← hq]
  clear hW2 hq BL R0 R1
  have R0 := R0'
  have R1 := R1'
  have BL := BL'
  clear R0' R1' BL'
  clear hz
  go_wp2_with (first | (refine wpList_load_row (by rfl) 76 (.tmp 3) (by rfl) (q) (by rfl) 76 (fA x1) (0, 0) _ R2.out underF rfl (fA_size _) ?_) | (refine wpList_load_row (by rfl) 76 (.tmp 1) (by rfl) (w.heap.size) (by rfl) 76 (fA a) (0, 0) _ R0.out underF rfl (fA_size _) ?_))
  refine (powerA x1 2 a Hx1.out Ha.out (by decide) _).mono ?_
  rintro e W3 ⟨rfl, hB3⟩
  have R0 := hide (row_keep' R0.out hB3)
  have R1 := hide (row_keep' R1.out hB3)
  have R2 := hide (row_keep' R2.out hB3)
  have BL : Hid (Below w.heap.size w W3) := BL.out.trans (hB3.mono BL.out.size)
  clear hB3
  obtain ⟨x2, Ex2⟩ : ∃ x, Hid (x = mP (sqN 2 x1) a) := ⟨_, rfl⟩
  have Hx2 : Hid (x2 < P) := by rw [Ex2.out]; exact mP_lt _ _
  rw [← Ex2.out]
  go_upto_region 3 with (first | (refine wpList_store_row (by rfl) 76 (.tmp 3) (.tmp 8) (by rfl) (q) (fA x2) (by rfl) (by rfl) 76 _ R2.out (fA_size _) (fA_old _ _) (fA_all _) ?_))
  obtain ⟨W4, hW4⟩ : ∃ W, W = W3.setRow (q) (fA x2) := ⟨_, rfl⟩
  have R0' : Hid (W4.heap[w.heap.size]? = some (.cells (fA a) 76 (0, 0))) := by rw [hW4]; exact (setRow_other _ _ _ _ (by omega)).trans R0.out
  have R1' : Hid (W4.heap[w.heap.size + 1]? = some (.cells (fA 0) 76 (0, 0))) := by rw [hW4]; exact (setRow_other _ _ _ _ (by omega)).trans R1.out
  have R2' : Hid (W4.heap[q]? = some (.cells (fA x2) 76 (0, 0))) := by rw [hW4]; exact setRow_heap _ _ _ _ _ _ R2.out
  have BL' : Hid (Below w.heap.size w W4) := by rw [hW4]; exact below_setRow BL.out (by omega) _
  rw [← hW4]
  clear hW4 BL R0 R1 R2
  have R0 := R0'
  have R1 := R1'
  have R2 := R2'
  have BL := BL'
  clear R0' R1' R2' BL'
  go_wp2_with (first | (refine wpList_load_row (by rfl) 76 (.tmp 3) (by rfl) (q) (by rfl) 76 (fA x2) (0, 0) _ R2.out underF rfl (fA_size _) ?_) | (refine wpList_load_row (by rfl) 76 (.tmp 1) (by rfl) (w.heap.size) (by rfl) 76 (fA a) (0, 0) _ R0.out underF rfl (fA_size _) ?_))
  refine (powerA x2 2 a Hx2.out Ha.out (by decide) _).mono ?_
  rintro e W5 ⟨rfl, hB5⟩
  have R0 := hide (row_keep' R0.out hB5)
  have R1 := hide (row_keep' R1.out hB5)
  have R2 := hide (row_keep' R2.out hB5)
  have BL : Hid (Below w.heap.size w W5) := BL.out.trans (hB5.mono BL.out.size)
  clear hB5
  obtain ⟨x3, Ex3⟩ : ∃ x, Hid (x = mP (sqN 2 x2) a) := ⟨_, rfl⟩
  have Hx3 : Hid (x3 < P) := by rw [Ex3.out]; exact mP_lt _ _
  rw [← Ex3.out]
  go_upto_region 4 with (first | (refine wpList_store_row (by rfl) 76 (.tmp 3) (.tmp 11) (by rfl) (q) (fA x3) (by rfl) (by rfl) 76 _ R2.out (fA_size _) (fA_old _ _) (fA_all _) ?_))
  obtain ⟨W6, hW6⟩ : ∃ W, W = W5.setRow (q) (fA x3) := ⟨_, rfl⟩
  have R0' : Hid (W6.heap[w.heap.size]? = some (.cells (fA a) 76 (0, 0))) := by rw [hW6]; exact (setRow_other _ _ _ _ (by omega)).trans R0.out
  have R1' : Hid (W6.heap[w.heap.size + 1]? = some (.cells (fA 0) 76 (0, 0))) := by rw [hW6]; exact (setRow_other _ _ _ _ (by omega)).trans R1.out
  have R2' : Hid (W6.heap[q]? = some (.cells (fA x3) 76 (0, 0))) := by rw [hW6]; exact setRow_heap _ _ _ _ _ _ R2.out
  have BL' : Hid (Below w.heap.size w W6) := by rw [hW6]; exact below_setRow BL.out (by omega) _
  rw [← hW6]
  clear hW6 BL R0 R1 R2
  have R0 := R0'
  have R1 := R1'
  have R2 := R2'
  have BL := BL'
  clear R0' R1' R2' BL'
  go_wp2_with (first | (refine wpList_load_row (by rfl) 76 (.tmp 3) (by rfl) (q) (by rfl) 76 (fA x3) (0, 0) _ R2.out underF rfl (fA_size _) ?_) | (refine wpList_load_row (by rfl) 76 (.tmp 1) (by rfl) (w.heap.size) (by rfl) 76 (fA a) (0, 0) _ R0.out underF rfl (fA_size _) ?_))
  refine (powerA x3 1 a Hx3.out Ha.out (by decide) _).mono ?_
  rintro e W7 ⟨rfl, hB7⟩
  have R0 := hide (row_keep' R0.out hB7)
  have R1 := hide (row_keep' R1.out hB7)
  have R2 := hide (row_keep' R2.out hB7)
  have BL : Hid (Below w.heap.size w W7) := BL.out.trans (hB7.mono BL.out.size)
  clear hB7
  obtain ⟨x4, Ex4⟩ : ∃ x, Hid (x = mP (sqN 1 x3) a) := ⟨_, rfl⟩
  have Hx4 : Hid (x4 < P) := by rw [Ex4.out]; exact mP_lt _ _
  rw [← Ex4.out]
  go_wp2_with (first | (refine wpList_store_row (by rfl) 76 (.tmp 2) (.tmp 14) (by rfl) (w.heap.size + 1) (fA x4) (by rfl) (by rfl) 76 _ R1.out (fA_size _) (fA_old _ _) (fA_all _) ?_))
  refine bodyPost_ret (v := .agg (fA x4)) (results_cell_row Tryd.results59 _ _ (w.heap.size + 1) 76 _ (0, 0) _ (by rfl) (setRow_heap _ _ _ _ _ _ R1.out) underF rfl (fA_size _)) rfl ⟨by rw [Ex4.out, Ex3.out, Ex2.out, Ex1.out]; rfl, below_setRow BL.out (by omega) _⟩
def m1D : Nat := mP (sqN 1 (mP (sqN 2 (onesN 2 250)) 2)) 2
theorem two_lt : 2 < P := by decide
set_option maxRecDepth 100000 in
set_option maxHeartbeats 400000 in
theorem minus1A (w : World) :
    Calls Tryd.prog 83 #[] w fun e w' => e = .returned (.agg (fA m1D)) ∧ Below w.heap.size w w' := by
  have hz := zeroFA
  go_enter Tryd.func83, Tryd.ntmps83
  go_upto_region 1 with fail
  obtain ⟨W0, hW0⟩ : ∃ W, W = w.alloc (.cells (fA 0) 76) := ⟨_, rfl⟩
  have R1 : Hid (W0.heap[w.heap.size]? = some (.cells (fA 0) 76 (0, 0))) := by rw [hW0]; exact heap_alloc_new _ _
  have BL : Hid (Below w.heap.size w W0) := by rw [hW0]; show Below _ _ _; go_grown
  rw [← hW0]
  clear hW0
  go_wp2_with fail
  refine (smallA 2 (by decide) _).mono ?_
  rintro e W1 ⟨rfl, hB1⟩
  have R1 := hide (row_keep' R1.out hB1)
  have BL : Hid (Below w.heap.size w W1) := BL.out.trans (hB1.mono BL.out.size)
  clear hB1
  go_upto_region 2 with (first | (refine wpList_store_row (by rfl) 76 (.tmp 1) (.tmp 3) (by rfl) W1.heap.size (fA 2) (by rfl) (by rfl) 76 _ (heap_alloc_new _ _) (fA_size _) (fA_old _ _) (fA_all _) ?_))
  obtain ⟨q, hq⟩ : ∃ q, q = W1.heap.size := ⟨_, rfl⟩
  obtain ⟨W2, hW2⟩ : ∃ W, W = (W1.alloc (.cells (fA 0) 76)).setRow W1.heap.size (fA 2) := ⟨_, rfl⟩
  have lR1q : w.heap.size < q := by rw [hq]; exact lt_row R1.out
  have R1' : Hid (W2.heap[w.heap.size]? = some (.cells (fA 0) 76 (0, 0))) := by rw [hW2]; exact (setRow_other _ _ _ _ (by omega)).trans ((heap_alloc_old _ _ (by omega)).trans R1.out)
  have R2 : Hid (W2.heap[q]? = some (.cells (fA 2) 76 (0, 0))) := by rw [hW2, hq]; exact setRow_heap _ _ _ _ _ _ (heap_alloc_new _ _)
  have BL' : Hid (Below w.heap.size w W2) := by rw [hW2]; exact below_setRow (BL.out.alloc BL.out.size _) BL.out.size _
  rw [← hW2, ← hq]
  clear hW2 hq BL R1
  have R1 := R1'
  have BL := BL'
  clear R1' BL'
  go_wp2_with (first | (refine wpList_load_row (by rfl) 76 (.tmp 1) (by rfl) (q) (by rfl) 76 (fA 2) (0, 0) _ R2.out underF rfl (fA_size _) ?_))
  refine (onesA 2 250 two_lt (by decide) _).mono ?_
  rintro e W3 ⟨rfl, hB3⟩
  have R1 := hide (row_keep' R1.out hB3)
  have R2 := hide (row_keep' R2.out hB3)
  have BL : Hid (Below w.heap.size w W3) := BL.out.trans (hB3.mono BL.out.size)
  clear hB3
  obtain ⟨x1, Ex1⟩ : ∃ x, Hid (x = onesN 2 250) := ⟨_, rfl⟩
  have Hx1 : Hid (x1 < P) := by rw [Ex1.out]; exact onesN_lt _ _
  rw [← Ex1.out]
  go_upto_region 3 with (first | (refine wpList_store_row (by rfl) 76 (.tmp 2) (.tmp 5) (by rfl) W3.heap.size (fA x1) (by rfl) (by rfl) 76 _ (heap_alloc_new _ _) (fA_size _) (fA_old _ _) (fA_all _) ?_))
  obtain ⟨r, hr⟩ : ∃ q, q = W3.heap.size := ⟨_, rfl⟩
  obtain ⟨W4, hW4⟩ : ∃ W, W = (W3.alloc (.cells (fA 0) 76)).setRow W3.heap.size (fA x1) := ⟨_, rfl⟩
  have lR1r : w.heap.size < r := by rw [hr]; exact lt_row R1.out
  have lR2r : q < r := by rw [hr]; exact lt_row R2.out
  have R1' : Hid (W4.heap[w.heap.size]? = some (.cells (fA 0) 76 (0, 0))) := by rw [hW4]; exact (setRow_other _ _ _ _ (by omega)).trans ((heap_alloc_old _ _ (by omega)).trans R1.out)
  have R2' : Hid (W4.heap[q]? = some (.cells (fA 2) 76 (0, 0))) := by rw [hW4]; exact (setRow_other _ _ _ _ (by omega)).trans ((heap_alloc_old _ _ (by omega)).trans R2.out)
  have R3 : Hid (W4.heap[r]? = some (.cells (fA x1) 76 (0, 0))) := by rw [hW4, hr]; exact setRow_heap _ _ _ _ _ _ (heap_alloc_new _ _)
  have BL' : Hid (Below w.heap.size w W4) := by rw [hW4]; exact below_setRow (BL.out.alloc BL.out.size _) BL.out.size _
  rw [← hW4, ← hr]
  clear hW4 hr BL R1 R2
  have R1 := R1'
  have R2 := R2'
  have BL := BL'
  clear R1' R2' BL'
  clear hz
  go_wp2_with (first | (refine wpList_load_row (by rfl) 76 (.tmp 2) (by rfl) (r) (by rfl) 76 (fA x1) (0, 0) _ R3.out underF rfl (fA_size _) ?_) | (refine wpList_load_row (by rfl) 76 (.tmp 1) (by rfl) (q) (by rfl) 76 (fA 2) (0, 0) _ R2.out underF rfl (fA_size _) ?_))
  refine (powerA x1 2 2 Hx1.out two_lt (by decide) _).mono ?_
  rintro e W5 ⟨rfl, hB5⟩
  have R1 := hide (row_keep' R1.out hB5)
  have R2 := hide (row_keep' R2.out hB5)
  have R3 := hide (row_keep' R3.out hB5)
  have BL : Hid (Below w.heap.size w W5) := BL.out.trans (hB5.mono BL.out.size)
  clear hB5
  obtain ⟨x2, Ex2⟩ : ∃ x, Hid (x = mP (sqN 2 x1) 2) := ⟨_, rfl⟩
  have Hx2 : Hid (x2 < P) := by rw [Ex2.out]; exact mP_lt _ _
  rw [← Ex2.out]
  go_upto_region 4 with (first | (refine wpList_store_row (by rfl) 76 (.tmp 2) (.tmp 8) (by rfl) (r) (fA x2) (by rfl) (by rfl) 76 _ R3.out (fA_size _) (fA_old _ _) (fA_all _) ?_))
  obtain ⟨W6, hW6⟩ : ∃ W, W = W5.setRow (r) (fA x2) := ⟨_, rfl⟩
  have R1' : Hid (W6.heap[w.heap.size]? = some (.cells (fA 0) 76 (0, 0))) := by rw [hW6]; exact (setRow_other _ _ _ _ (by omega)).trans R1.out
  have R2' : Hid (W6.heap[q]? = some (.cells (fA 2) 76 (0, 0))) := by rw [hW6]; exact (setRow_other _ _ _ _ (by omega)).trans R2.out
  have R3' : Hid (W6.heap[r]? = some (.cells (fA x2) 76 (0, 0))) := by rw [hW6]; exact setRow_heap _ _ _ _ _ _ R3.out
  have BL' : Hid (Below w.heap.size w W6) := by rw [hW6]; exact below_setRow BL.out (by omega) _
  rw [← hW6]
  clear hW6 BL R1 R2 R3
  have R1 := R1'
  have R2 := R2'
  have R3 := R3'
  have BL := BL'
  clear R1' R2' R3' BL'
  go_wp2_with (first | (refine wpList_load_row (by rfl) 76 (.tmp 2) (by rfl) (r) (by rfl) 76 (fA x2) (0, 0) _ R3.out underF rfl (fA_size _) ?_) | (refine wpList_load_row (by rfl) 76 (.tmp 1) (by rfl) (q) (by rfl) 76 (fA 2) (0, 0) _ R2.out underF rfl (fA_size _) ?_))
  refine (powerA x2 1 2 Hx2.out two_lt (by decide) _).mono ?_
  rintro e W7 ⟨rfl, hB7⟩
  have R1 := hide (row_keep' R1.out hB7)
  have R2 := hide (row_keep' R2.out hB7)
  have R3 := hide (row_keep' R3.out hB7)
  have BL : Hid (Below w.heap.size w W7) := BL.out.trans (hB7.mono BL.out.size)
  clear hB7
  obtain ⟨x3, Ex3⟩ : ∃ x, Hid (x = mP (sqN 1 x2) 2) := ⟨_, rfl⟩
  have Hx3 : Hid (x3 < P) := by rw [Ex3.out]; exact mP_lt _ _
  rw [← Ex3.out]
  go_wp2_with (first | (refine wpList_store_row (by rfl) 76 (.tmp 0) (.tmp 11) (by rfl) (w.heap.size) (fA x3) (by rfl) (by rfl) 76 _ R1.out (fA_size _) (fA_old _ _) (fA_all _) ?_))
  refine bodyPost_ret (v := .agg (fA x3)) (results_cell_row Tryd.results83 _ _ (w.heap.size) 76 _ (0, 0) _ (by rfl) (setRow_heap _ _ _ _ _ _ R1.out) underF rfl (fA_size _)) rfl ⟨by rw [Ex3.out, Ex2.out, Ex1.out]; rfl, below_setRow BL.out (by omega) _⟩
def crvD : Nat := mP (sP 0 121665) (invD 121666)
theorem k65 : 121665 < P := by decide
theorem k66 : 121666 < P := by decide
theorem zero_lt : 0 < P := by decide
set_option maxRecDepth 100000 in
set_option maxHeartbeats 400000 in
theorem curveA (w : World) :
    Calls Tryd.prog 31 #[] w fun e w' => e = .returned (.agg (fA crvD)) ∧ Below w.heap.size w w' := by
  have hz := zeroFA
  go_enter Tryd.func31, Tryd.ntmps31
  go_upto_region 1 with fail
  obtain ⟨W0, hW0⟩ : ∃ W, W = w.alloc (.cells (fA 0) 76) := ⟨_, rfl⟩
  have R1 : Hid (W0.heap[w.heap.size]? = some (.cells (fA 0) 76 (0, 0))) := by rw [hW0]; exact heap_alloc_new _ _
  have BL : Hid (Below w.heap.size w W0) := by rw [hW0]; show Below _ _ _; go_grown
  rw [← hW0]
  clear hW0
  go_wp2_with fail
  refine (smallA 121665 (by decide) _).mono ?_
  rintro e W1 ⟨rfl, hB1⟩
  have R1 := hide (row_keep' R1.out hB1)
  have BL : Hid (Below w.heap.size w W1) := BL.out.trans (hB1.mono BL.out.size)
  clear hB1
  go_wp2_with fail
  refine (subA' 0 121665 zero_lt k65 _).mono ?_
  rintro e W2 ⟨rfl, hB2⟩
  have R1 := hide (row_keep' R1.out hB2)
  have BL : Hid (Below w.heap.size w W2) := BL.out.trans (hB2.mono BL.out.size)
  clear hB2
  obtain ⟨x1, Ex1⟩ : ∃ x, Hid (x = sP 0 121665) := ⟨_, rfl⟩
  have Hx1 : Hid (x1 < P) := by rw [Ex1.out]; exact sP_lt _ _
  rw [← Ex1.out]
  go_wp2_with fail
  refine (smallA 121666 (by decide) _).mono ?_
  rintro e W3 ⟨rfl, hB3⟩
  have R1 := hide (row_keep' R1.out hB3)
  have BL : Hid (Below w.heap.size w W3) := BL.out.trans (hB3.mono BL.out.size)
  clear hB3
  go_wp2_with fail
  refine (inverseA 121666 k66 _).mono ?_
  rintro e W4 ⟨rfl, hB4⟩
  have R1 := hide (row_keep' R1.out hB4)
  have BL : Hid (Below w.heap.size w W4) := BL.out.trans (hB4.mono BL.out.size)
  clear hB4
  obtain ⟨x2, Ex2⟩ : ∃ x, Hid (x = invD 121666) := ⟨_, rfl⟩
  have Hx2 : Hid (x2 < P) := by rw [Ex2.out]; exact invD_lt _
  rw [← Ex2.out]
  go_wp2_with fail
  refine (mulA x1 x2 Hx1.out Hx2.out _).mono ?_
  rintro e W5 ⟨rfl, hB5⟩
  have R1 := hide (row_keep' R1.out hB5)
  have BL : Hid (Below w.heap.size w W5) := BL.out.trans (hB5.mono BL.out.size)
  clear hB5
  obtain ⟨x3, Ex3⟩ : ∃ x, Hid (x = mP x1 x2) := ⟨_, rfl⟩
  have Hx3 : Hid (x3 < P) := by rw [Ex3.out]; exact mP_lt _ _
  rw [← Ex3.out]
  go_wp2_with (first | (refine wpList_store_row (by rfl) 76 (.tmp 0) (.tmp 6) (by rfl) (w.heap.size) (fA x3) (by rfl) (by rfl) 76 _ R1.out (fA_size _) (fA_old _ _) (fA_all _) ?_))
  refine bodyPost_ret (v := .agg (fA x3)) (results_cell_row Tryd.results31 _ _ (w.heap.size) 76 _ (0, 0) _ (by rfl) (setRow_heap _ _ _ _ _ _ R1.out) underF rfl (fA_size _)) rfl ⟨by rw [Ex3.out, Ex2.out, Ex1.out]; rfl, below_setRow BL.out (by omega) _⟩
end
end Go.Proofs.YtemdlpcljjdfjaaDoor
