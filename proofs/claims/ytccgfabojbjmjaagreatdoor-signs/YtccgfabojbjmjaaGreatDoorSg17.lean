import Derived.Test.YtccgfabojbjmjaaGreatDoorSg14
import Derived.Deep.RegionHeld3
namespace Go.Proofs.YtccgfabojbjmjaaGreatDoor
open Go.RowKit
def fc (x i : Nat) : Int := (fd x).getD i 0
theorem fd_list (x : Nat) : fd x = [fc x 0, fc x 1, fc x 2, fc x 3, fc x 4, fc x 5, fc x 6, fc x 7, fc x 8, fc x 9] := by
 have h := qaH x
 unfold fc
 generalize fd x = l at *
 match l, h with
 | [a0, a1, a2, a3, a4, a5, a6, a7, a8, a9], _ => rfl
theorem fA_list (x : Nat) : fA x = #[iv (fc x 0), iv (fc x 1), iv (fc x 2), iv (fc x 3), iv (fc x 4), iv (fc x 5), iv (fc x 6), iv (fc x 7), iv (fc x 8), iv (fc x 9)] := by
 unfold fA; rw [fd_list]; rfl
theorem fold10 (x : Nat) : Value.agg #[.int .i64 (fc x 0), .int .i64 (fc x 1), .int .i64 (fc x 2), .int .i64 (fc x 3), .int .i64 (fc x 4), .int .i64 (fc x 5), .int .i64 (fc x 6), .int .i64 (fc x 7), .int .i64 (fc x 8), .int .i64 (fc x 9)] = .agg (fA x) := by
 rw [fA_list]
abbrev C10 (w : World) (b x : Nat) : Prop := w.cell? ⟨b, 0, none⟩ = some (.int .i64 (fc x 0)) ∧ w.cell? ⟨b, 1, none⟩ = some (.int .i64 (fc x 1)) ∧ w.cell? ⟨b, 2, none⟩ = some (.int .i64 (fc x 2)) ∧ w.cell? ⟨b, 3, none⟩ = some (.int .i64 (fc x 3)) ∧ w.cell? ⟨b, 4, none⟩ = some (.int .i64 (fc x 4)) ∧ w.cell? ⟨b, 5, none⟩ = some (.int .i64 (fc x 5)) ∧ w.cell? ⟨b, 6, none⟩ = some (.int .i64 (fc x 6)) ∧ w.cell? ⟨b, 7, none⟩ = some (.int .i64 (fc x 7)) ∧ w.cell? ⟨b, 8, none⟩ = some (.int .i64 (fc x 8)) ∧ w.cell? ⟨b, 9, none⟩ = some (.int .i64 (fc x 9))
theorem c10_of {w : World} {b x : Nat} {T : TypeId} {fr : Nat × Nat} (h : w.heap[b]? = some (.cells (fA x) T fr)) : C10 w b x := by
 rw [fA_list] at h
 refine ⟨?_, ?_, ?_, ?_, ?_, ?_, ?_, ?_, ?_, ?_⟩ <;> exact (cell_of_row w b _ _ _ _ h).trans rfl
def fL (x : Nat) : List Value := (fd x).map iv
theorem fL_len (x : Nat) : (fL x).length = 10 := by unfold fL; rw [List.length_map, qaH]
theorem qc5 (x : Nat) : (Tryz.prog.info? 95).map (·.size) = some (fL x).length := by rw [fL_len]; exact sizeF
theorem foldL (x : Nat) : Value.agg (fL x).toArray = .agg (fA x) := rfl
theorem qbD {w : World} {b x : Nat} {T : TypeId} {fr : Nat × Nat} (h : w.heap[b]? = some (.cells (fA x) T fr)) : w.rangeAt b 0 (fL x) := by
 intro j v hv
 rw [Nat.zero_add, cell_of_row w b j _ T _ h]
 show ((fL x).toArray)[j]? = some v
 simpa using hv
theorem qad {w w' : World} {b o B : Nat} {cs : List Value} (h : w.rangeAt b o cs) (hB : Below B w w') (hb : b < B) : w'.rangeAt b o cs :=
 fun j v hv => (hB.cell hb).trans (h j v hv)
theorem foldOne : Value.agg #[.int .i64 1, .int .i64 0, .int .i64 0, .int .i64 0, .int .i64 0, .int .i64 0, .int .i64 0, .int .i64 0, .int .i64 0, .int .i64 0] = .agg (fA 1) := by
 rw [fA_small 1 (by decide)]; rfl
theorem zeroFw (w : World) : (zeroValue 95).run Tryz.prog w = .ok (.agg #[.int .i64 0, .int .i64 0, .int .i64 0, .int .i64 0, .int .i64 0, .int .i64 0, .int .i64 0, .int .i64 0, .int .i64 0, .int .i64 0]) w := zeroF w
def rxD (a : Nat) : Nat → Nat
 | 0 => mP (sqN 1 (qdJ a 251)) 1
 | k + 1 => mP (rxD a k) m1D
theorem rxD_lt (a k : Nat) : rxD a k < P := by cases k <;> exact qaB _ _
def qbK (a : Nat) : Bool := decide (mP (rxD a 0) (rxD a 0) = a ∨ mP (rxD a 1) (rxD a 1) = a)
def qbR (a : Nat) : Nat := if mP (rxD a 0) (rxD a 0) = a then rxD a 0 else if mP (rxD a 1) (rxD a 1) = a then rxD a 1 else 0
theorem rootDV_lt (a : Nat) : qbR a < P := by
 unfold qbR; split
 · exact rxD_lt _ _
 ·
  split
  · exact rxD_lt _ _
  · exact (by decide : 0 < P)
theorem m1D_lt : m1D < P := qaB _ _
section
attribute [local irreducible] fA fc m1D
attribute [local go_sem] foldOne fold10
set_option maxRecDepth 100000 in
set_option maxHeartbeats 400000 in
theorem rootA (a : Nat) (ha : a < P) (w : World) :
  Calls Tryz.prog 111 #[.agg (fA a)] w fun e w' => e = .returned (.tuple #[.agg (fA (qbR a)), .bool (qbK a)]) ∧ Below w.heap.size w w' := by
 have hz := qcy
 have Ha := qaf ha
 clear ha
 go_enter Tryz.func111, Tryz.ntmps111
 go_upto_region 1 with fail
 obtain ⟨W0, hW0⟩ : ∃ W, W = (w.alloc (.cells (fA a) 95)).alloc (.cells (fA 0) 95) := ⟨_, rfl⟩
 have R0 : Hid (W0.heap[w.heap.size]? = some (.cells (fA a) 95 (0, 0))) := by rw [hW0]; exact at2_0 _ _ _
 have R1 : Hid (W0.heap[w.heap.size + 1]? = some (.cells (fA 0) 95 (0, 0))) := by rw [hW0]; exact at2_1 _ _ _
 have BL : Hid (Below w.heap.size w W0) := by rw [hW0]; show Below _ _ _; go_grown
 rw [← hW0]
 clear hW0
 go_wp2_with (first | (refine wpList_load_row (by rfl) 95 (.tmp 1) (by rfl) (w.heap.size) (by rfl) 95 (fA a) (0, 0) _ R0.out qaD rfl (qat _) ?_))
 refine (onesA a 251 Ha.out (by decide) _).mono ?_
 rintro e W1 ⟨rfl, hB1⟩
 have R0 := qaf (qaa R0.out hB1)
 have R1 := qaf (qaa R1.out hB1)
 have BL : Hid (Below w.heap.size w W1) := BL.out.trans (hB1.mono BL.out.size)
 clear hB1
 obtain ⟨x0, E0⟩ : ∃ x, Hid (x = qdJ a 251) := ⟨_, rfl⟩
 have Hx0 : Hid (x0 < P) := by rw [E0.out]; exact qdY _ _
 rw [← E0.out]
 clear hz
 have hz := zeroFw
 go_wp2_with fail
 refine (powerA x0 1 1 Hx0.out (by decide) (by decide) _).mono ?_
 rintro e W2 ⟨rfl, hB1⟩
 have R0 := qaf (qaa R0.out hB1)
 have R1 := qaf (qaa R1.out hB1)
 have BL : Hid (Below w.heap.size w W2) := BL.out.trans (hB1.mono BL.out.size)
 clear hB1
 obtain ⟨x1, E1⟩ : ∃ x, Hid (x = mP (sqN 1 x0) 1) := ⟨_, rfl⟩
 rw [← E1.out]
 clear hz
 have hz := qcy
 go_wp2_with (first | (refine wpList_store_row (by rfl) 95 (.tmp 4) (.tmp 10) (by rfl) W2.heap.size (fA x1) (by rfl) (by rfl) 95 _ (heap_alloc_new _ _) (qat _) (qaU _ _) (qaS _) ?_))
 obtain ⟨q, hq⟩ : ∃ q, q = W2.heap.size := ⟨_, rfl⟩
 obtain ⟨W3, hW3⟩ : ∃ W, W = (W2.alloc (.cells (fA 0) 95)).setRow W2.heap.size (fA x1) := ⟨_, rfl⟩
 have hq1 : w.heap.size + 1 < q := by rw [hq]; exact qae R1.out
 have B0 : Hid (W3.heap[w.heap.size]? = some (.cells (fA a) 95 (0, 0))) := by
  rw [hW3]; exact (setRow_other _ _ _ _ (by omega)).trans ((heap_alloc_old _ _ (by omega)).trans R0.out)
 have B1 : Hid (W3.heap[w.heap.size + 1]? = some (.cells (fA 0) 95 (0, 0))) := by
  rw [hW3]; exact (setRow_other _ _ _ _ (by omega)).trans ((heap_alloc_old _ _ (by omega)).trans R1.out)
 have B2 : Hid (W3.heap[q]? = some (.cells (fA (rxD a 0)) 95 (0, 0))) := by
  rw [hW3, hq]
  show _ = some (Obj.cells (fA (mP (sqN 1 (qdJ a 251)) 1)) _ _)
  rw [← E0.out, ← E1.out]
  exact setRow_heap _ _ _ _ _ _ (heap_alloc_new _ _)
 have BB : Hid (Below w.heap.size w W3) := by
  rw [hW3]; exact below_setRow (BL.out.alloc BL.out.size _) (by omega) _
 rw [← hW3, ← hq]
 clear hW3 hq R0 R1 BL E1 E0 Hx0
 go_loopw [5] (fun kV wr => ∃ (k : Nat), k ≤ 2 ∧ kV = .int .i64 k ∧ Hid (∀ j, j < k → ¬ mP (rxD a j) (rxD a j) = a) ∧ Hid (wr.heap[w.heap.size]? = some (.cells (fA a) 95 (0, 0))) ∧ Hid (wr.heap[w.heap.size + 1]? = some (.cells (fA 0) 95 (0, 0))) ∧ Hid (wr.heap[q]? = some (.cells (fA (rxD a k)) 95 (0, 0))) ∧ Hid (Below w.heap.size w wr)) (fun k _ => 2 - (intOf k).toNat)
 case atStart => exact ⟨0, by omega, rfl, qaf (fun j h => by omega), B0, B1, B2, BB⟩
 case round =>
  clear B0 B1 B2 BB
  obtain ⟨k, hk, rfl, HN, H0, H1, H2, HB⟩ := hrel
  by_cases hlt : k < 2
  ·
   have bk : (k : Int) < 2 := by omega
   obtain ⟨x, HX⟩ : ∃ x, Hid (x = rxD a k) := ⟨_, rfl⟩
   have Hx : Hid (x < P) := by rw [HX.out]; exact rxD_lt a k
   rw [← HX.out] at H2
   go_wp2_with (first | (refine wpList_load_row (by rfl) 95 (.tmp 4) (by rfl) q (by rfl) 95 (fA x) (0, 0) _ H2.out qaD rfl (qat _) ?_))
   refine (qd1 x x Hx.out Hx.out _).mono ?_
   rintro e W1 ⟨rfl, hB1⟩
   have H0 := qaf (qaa H0.out hB1)
   have H1 := qaf (qaa H1.out hB1)
   have H2 := qaf (qaa H2.out hB1)
   have HB : Hid (Below w.heap.size w W1) := HB.out.trans (hB1.mono HB.out.size)
   clear hB1
   obtain ⟨y, EY⟩ : ∃ y, Hid (y = mP x x) := ⟨_, rfl⟩
   have Hy : Hid (y < P) := by rw [EY.out]; exact qaB _ _
   rw [← EY.out]
   go_upto_region 6 with (first | (refine wpList_store_row (by rfl) 95 (.tmp 6) (.tmp 17) (by rfl) W1.heap.size (fA y) (by rfl) (by rfl) 95 _ (heap_alloc_new _ _) (qat _) (qaU _ _) (qaS _) ?_))
   obtain ⟨r, hr⟩ : ∃ r, r = W1.heap.size := ⟨_, rfl⟩
   obtain ⟨W2, hW2⟩ : ∃ W, W = (W1.alloc (.cells (fA 0) 95)).setRow W1.heap.size (fA y) := ⟨_, rfl⟩
   have hqr : q < r := by rw [hr]; exact qae H2.out
   have J0 : Hid (W2.heap[w.heap.size]? = some (.cells (fA a) 95 (0, 0))) := by
    rw [hW2]; exact (setRow_other _ _ _ _ (by omega)).trans ((heap_alloc_old _ _ (by omega)).trans H0.out)
   have J1 : Hid (W2.heap[w.heap.size + 1]? = some (.cells (fA 0) 95 (0, 0))) := by
    rw [hW2]; exact (setRow_other _ _ _ _ (by omega)).trans ((heap_alloc_old _ _ (by omega)).trans H1.out)
   have J2 : Hid (W2.heap[q]? = some (.cells (fA x) 95 (0, 0))) := by
    rw [hW2]; exact (setRow_other _ _ _ _ (by omega)).trans ((heap_alloc_old _ _ (by omega)).trans H2.out)
   have J3 : Hid (W2.heap[r]? = some (.cells (fA y) 95 (0, 0))) := by
    rw [hW2, hr]; exact setRow_heap _ _ _ _ _ _ (heap_alloc_new _ _)
   have JB : Hid (Below w.heap.size w W2) := by
    rw [hW2]; exact below_setRow (HB.out.alloc HB.out.size _) (by omega) _
   rw [← hW2, ← hr]
   clear hW2 hr H0 H1 H2 HB hz
   have heq := eqA y a Hy.out Ha.out W2
   by_cases hy : y = a
   ·
    have hd : decide (y = a) = true := decide_eq_true hy
    rw [hd] at heq
    have HY : Hid (mP (rxD a k) (rxD a k) = a) := by rw [← HX.out, ← EY.out]; exact hy
    clear hd hy
    go_wp2_with (first
     | (refine wpList_load_row (by rfl) 95 (.tmp 6) (by rfl) r (by rfl) 95 (fA y) (0, 0) _ J3.out qaD rfl (qat _) ?_)
     | (refine wpList_load_row (by rfl) 95 (.tmp 1) (by rfl) w.heap.size (by rfl) 95 (fA a) (0, 0) _ J0.out qaD rfl (qat _) ?_)
     | (refine wpList_load_row (by rfl) 95 (.tmp 4) (by rfl) q (by rfl) 95 (fA x) (0, 0) _ J2.out qaD rfl (qat _) ?_)
     | (refine wpList_store_row (by rfl) 95 (.tmp 2) (.tmp 21) (by rfl) (w.heap.size + 1) (fA x) (by rfl) (by rfl) 95 _ J1.out (qat _) (qaU _ _) (qaS _) ?_))
    refine bodyPost_ret (v := .tuple #[.agg (fA x), .bool true]) (qas Tryz.results111 _ _ (w.heap.size + 1) 95 (fA x) (0, 0) _ (by rfl) (setRow_heap _ _ _ _ _ _ J1.out) qaD rfl (qat _)) rfl ⟨?_, below_setRow JB.out (by omega) _⟩
    rw [HX.out]
    unfold qbR qbK
    have hk2 : k = 0 ∨ k = 1 := by omega
    rcases hk2 with rfl | rfl
    · rw [if_pos HY.out, decide_eq_true (Or.inl HY.out)]
    · rw [if_neg (HN.out 0 (by decide)), if_pos HY.out, decide_eq_true (Or.inr HY.out)]
   ·
    have hd : decide (y = a) = false := decide_eq_false hy
    rw [hd] at heq
    have HY : Hid (¬ mP (rxD a k) (rxD a k) = a) := by rw [← HX.out, ← EY.out]; exact hy
    clear hd hy
    go_wp2_with (first
     | (refine wpList_load_row (by rfl) 95 (.tmp 6) (by rfl) r (by rfl) 95 (fA y) (0, 0) _ J3.out qaD rfl (qat _) ?_)
     | (refine wpList_load_row (by rfl) 95 (.tmp 1) (by rfl) w.heap.size (by rfl) 95 (fA a) (0, 0) _ J0.out qaD rfl (qat _) ?_))
    clear heq
    obtain ⟨c0, c1, c2, c3, c4, c5, c6, c7, c8, c9⟩ := c10_of J2.out
    go_region_with (first
      | (go_at_call 148; (fail_if_success (have zz := K1)); refine (minus1A _).mono ?_; rintro e V1 ⟨rfl, HBx⟩; have K1 : Hid (Below W2.heap.size W2 V1) := qaf (qbJ HBx); obtain ⟨d0, d1, d2, d3, d4, d5, d6, d7, d8, d9⟩ := c10_of (qah J2.out K1.out (qae J2.out)); clear HBx)
      | (go_at_call 63; (have zz := K1; clear zz); refine (qd1 x m1D Hx.out m1D_lt _).mono ?_; rintro e V2 ⟨rfl, HBx⟩; have K2 : Hid (Below W2.heap.size W2 V2) := qaf (K1.out.trans (HBx.mono K1.out.size)); have hst := qau (P := Tryz.prog) (cs := fA (mP x m1D)) (qah J2.out K2.out (qae J2.out)) (qaU _ _) (qaS _); have hs10 := fA_len (mP x m1D); clear HBx)
      | fail)
    all_goals (
     clear hst hs10 c0 c1 c2 c3 c4 c5 c6 c7 c8 c9 d0 d1 d2 d3 d4 d5 d6 d7 d8 d9
     go_wp2_with fail
     have L0 := qaf (qah J0.out K2.out (qae J0.out))
     have L1 := qaf (qah J1.out K2.out (qae J1.out))
     have L2 := qaf (qah J2.out K2.out (qae J2.out))
     have LB : Hid (Below w.heap.size w V2) := JB.out.trans (K2.out.mono JB.out.size)
     refine ⟨⟨k + 1, by omega, by go_num, ?_, (setRow_other _ _ _ _ (by omega)).trans L0.out, (setRow_other _ _ _ _ (by omega)).trans L1.out, ?_, below_setRow LB.out (by omega) _⟩, by simp [intOf]; omega⟩
     ·
      intro j hj
      rcases Nat.lt_or_ge j k with h | h
      · exact HN.out j h
      ·
       obtain rfl : j = k := by omega
       exact HY.out
     ·
      show _ = some (Obj.cells (fA (mP (rxD a k) m1D)) _ _)
      rw [← HX.out]
      exact setRow_heap _ _ _ _ _ _ L2.out)
  ·
   obtain rfl : k = 2 := by omega
   have bk : (2 : Int) ≤ ((2 : Nat) : Int) := by omega
   go_wp2_with (first | (refine wpList_store_row (by rfl) 95 (.tmp 2) (.tmp 25) (by rfl) (w.heap.size + 1) (fA 0) (by rfl) (by rfl) 95 _ H1.out (qat _) (qaU _ _) (qaS _) ?_))
   refine bodyPost_ret (v := .tuple #[.agg (fA 0), .bool false]) (qas Tryz.results111 _ _ (w.heap.size + 1) 95 (fA 0) (0, 0) _ (by rfl) (setRow_heap _ _ _ _ _ _ H1.out) qaD rfl (qat _)) rfl ⟨?_, below_setRow HB.out (by omega) _⟩
   unfold qbR qbK
   have n0 := HN.out 0 (by decide)
   have n1 := HN.out 1 (by decide)
   rw [if_neg n0, if_neg n1, decide_eq_false (fun h => h.elim n0 n1)]
end
end Go.Proofs.YtccgfabojbjmjaaGreatDoor
