import Derived.Test.YtccgfabojbjmjaaGreatDoorVe14
import Derived.Deep.RegionHeld3
import Derived.Deep.DrawnRows
import Derived.Laws.CopyOwn
namespace Go.Proofs.YtccgfabojbjmjaaGreatDoor
open Go.RowKit
def fc (x i : Nat) : Int := (fd x).getD i 0
theorem fd_list (x : Nat) : fd x = [fc x 0, fc x 1, fc x 2, fc x 3, fc x 4, fc x 5, fc x 6, fc x 7, fc x 8, fc x 9] := by
 have h := fd_length x
 unfold fc
 generalize fd x = l at *
 match l, h with
 | [a0, a1, a2, a3, a4, a5, a6, a7, a8, a9], _ => rfl
theorem fA_list (x : Nat) : fA x = #[iv (fc x 0), iv (fc x 1), iv (fc x 2), iv (fc x 3), iv (fc x 4), iv (fc x 5), iv (fc x 6), iv (fc x 7), iv (fc x 8), iv (fc x 9)] := by
 unfold fA; rw [fd_list]; rfl
theorem fold10 (x : Nat) : Value.agg #[.int .i64 (fc x 0), .int .i64 (fc x 1), .int .i64 (fc x 2), .int .i64 (fc x 3), .int .i64 (fc x 4), .int .i64 (fc x 5), .int .i64 (fc x 6), .int .i64 (fc x 7), .int .i64 (fc x 8), .int .i64 (fc x 9)] = .agg (fA x) := by
 rw [fA_list]
abbrev C10 (w : World) (b x : Nat) : Prop := w.cell? ⟨b, 0, none⟩ = some (.int .i64 (fc x 0)) ∧ w.cell? ⟨b, 1, none⟩ = some (.int .i64 (fc x 1)) ∧ w.cell? ⟨b, 2, none⟩ = some (.int .i64 (fc x 2)) ∧ w.cell? ⟨b, 3, none⟩ = some (.int .i64 (fc x 3)) ∧ w.cell? ⟨b, 4, none⟩ = some (.int .i64 (fc x 4)) ∧ w.cell? ⟨b, 5, none⟩ = some (.int .i64 (fc x 5)) ∧ w.cell? ⟨b, 6, none⟩ = some (.int .i64 (fc x 6)) ∧ w.cell? ⟨b, 7, none⟩ = some (.int .i64 (fc x 7)) ∧ w.cell? ⟨b, 8, none⟩ = some (.int .i64 (fc x 8)) ∧ w.cell? ⟨b, 9, none⟩ = some (.int .i64 (fc x 9))
theorem c10_of {w : World} {b x : Nat} {T : TypeId} {fr : Nat × Nat} (h : w.heap[b]? = some (.cells (fA x) T fr)) : C10 w b x := by
 rw [fA_list] at h
 refine ⟨?_, ?_, ?_, ?_, ?_, ?_, ?_, ?_, ?_, ?_⟩ <;> exact (cell_of_row w b _ _ _ _ h).trans rfl
def fL (x : Nat) : List Value := (fd x).map iv
theorem fL_len (x : Nat) : (fL x).length = 10 := by unfold fL; rw [List.length_map, fd_length]
theorem fL_size (x : Nat) : (Tryz.prog.info? 95).map (·.size) = some (fL x).length := by rw [fL_len]; exact sizeF
theorem foldL (x : Nat) : Value.agg (fL x).toArray = .agg (fA x) := rfl
theorem rangeL {w : World} {b x : Nat} {T : TypeId} {fr : Nat × Nat} (h : w.heap[b]? = some (.cells (fA x) T fr)) : w.rangeAt b 0 (fL x) := by
 intro j v hv
 rw [Nat.zero_add, cell_of_row w b j _ T _ h]
 show ((fL x).toArray)[j]? = some v
 simpa using hv
theorem range_below {w w' : World} {b o B : Nat} {cs : List Value} (h : w.rangeAt b o cs) (hB : Below B w w') (hb : b < B) : w'.rangeAt b o cs :=
 fun j v hv => (hB.cell hb).trans (h j v hv)
theorem foldOne : Value.agg #[.int .i64 1, .int .i64 0, .int .i64 0, .int .i64 0, .int .i64 0, .int .i64 0, .int .i64 0, .int .i64 0, .int .i64 0, .int .i64 0] = .agg (fA 1) := by
 rw [fA_small 1 (by decide)]; rfl
theorem zeroFw (w : World) : (zeroValue 95).run Tryz.prog w = .ok (.agg #[.int .i64 0, .int .i64 0, .int .i64 0, .int .i64 0, .int .i64 0, .int .i64 0, .int .i64 0, .int .i64 0, .int .i64 0, .int .i64 0]) w := zeroF w
def rxD (a : Nat) : Nat → Nat
 | 0 => mP (sqN 1 (onesN a 251)) 1
 | k + 1 => mP (rxD a k) m1D
theorem rxD_lt (a k : Nat) : rxD a k < P := by cases k <;> exact mP_lt _ _
def rootDB (a : Nat) : Bool := decide (mP (rxD a 0) (rxD a 0) = a ∨ mP (rxD a 1) (rxD a 1) = a)
def rootDV (a : Nat) : Nat := if mP (rxD a 0) (rxD a 0) = a then rxD a 0 else if mP (rxD a 1) (rxD a 1) = a then rxD a 1 else 0
theorem rootDV_lt (a : Nat) : rootDV a < P := by
 unfold rootDV; split
 · exact rxD_lt _ _
 ·
  split
  · exact rxD_lt _ _
  · exact (by decide : 0 < P)
theorem m1D_lt : m1D < P := mP_lt _ _
section
attribute [local irreducible] fA fc m1D
attribute [local go_sem] foldOne fold10
set_option maxRecDepth 100000 in
set_option maxHeartbeats 400000 in
theorem rootA (a : Nat) (ha : a < P) (w : World) :
  Calls Tryz.prog 111 #[.agg (fA a)] w fun e w' => e = .returned (.tuple #[.agg (fA (rootDV a)), .bool (rootDB a)]) ∧ Below w.heap.size w w' := by
 have hz := zeroFA
 have Ha := hide ha
 clear ha
 go_enter Tryz.func111, Tryz.ntmps111
 go_upto_region 1 with fail
 obtain ⟨W0, hW0⟩ : ∃ W, W = (w.alloc (.cells (fA a) 95)).alloc (.cells (fA 0) 95) := ⟨_, rfl⟩
 have R0 : Hid (W0.heap[w.heap.size]? = some (.cells (fA a) 95 (0, 0))) := by rw [hW0]; exact at2_0 _ _ _
 have R1 : Hid (W0.heap[w.heap.size + 1]? = some (.cells (fA 0) 95 (0, 0))) := by rw [hW0]; exact at2_1 _ _ _
 have BL : Hid (Below w.heap.size w W0) := by rw [hW0]; show Below _ _ _; go_grown
 rw [← hW0]
 clear hW0
 go_wp2_with (first | (refine wpList_load_row (by rfl) 95 (.tmp 1) (by rfl) (w.heap.size) (by rfl) 95 (fA a) (0, 0) _ R0.out underF rfl (fA_size _) ?_))
 refine (onesA a 251 Ha.out (by decide) _).mono ?_
 rintro e W1 ⟨rfl, hB1⟩
 have R0 := hide (row_keep' R0.out hB1)
 have R1 := hide (row_keep' R1.out hB1)
 have BL : Hid (Below w.heap.size w W1) := BL.out.trans (hB1.mono BL.out.size)
 clear hB1
 obtain ⟨x0, E0⟩ : ∃ x, Hid (x = onesN a 251) := ⟨_, rfl⟩
 have Hx0 : Hid (x0 < P) := by rw [E0.out]; exact onesN_lt _ _
 rw [← E0.out]
 clear hz
 have hz := zeroFw
 go_wp2_with fail
 refine (powerA x0 1 1 Hx0.out (by decide) (by decide) _).mono ?_
 rintro e W2 ⟨rfl, hB1⟩
 have R0 := hide (row_keep' R0.out hB1)
 have R1 := hide (row_keep' R1.out hB1)
 have BL : Hid (Below w.heap.size w W2) := BL.out.trans (hB1.mono BL.out.size)
 clear hB1
 obtain ⟨x1, E1⟩ : ∃ x, Hid (x = mP (sqN 1 x0) 1) := ⟨_, rfl⟩
 rw [← E1.out]
 clear hz
 have hz := zeroFA
 go_wp2_with (first | (refine wpList_store_row (by rfl) 95 (.tmp 4) (.tmp 10) (by rfl) W2.heap.size (fA x1) (by rfl) (by rfl) 95 _ (heap_alloc_new _ _) (fA_size _) (fA_old _ _) (fA_all _) ?_))
 obtain ⟨q, hq⟩ : ∃ q, q = W2.heap.size := ⟨_, rfl⟩
 obtain ⟨W3, hW3⟩ : ∃ W, W = (W2.alloc (.cells (fA 0) 95)).setRow W2.heap.size (fA x1) := ⟨_, rfl⟩
 have hq1 : w.heap.size + 1 < q := by rw [hq]; exact lt_row R1.out
 have B0 : Hid (W3.heap[w.heap.size]? = some (.cells (fA a) 95 (0, 0))) := by
  rw [hW3]; exact (setRow_other _ _ _ _ (by omega)).trans ((heap_alloc_old _ _ (by omega)).trans R0.out)
 have B1 : Hid (W3.heap[w.heap.size + 1]? = some (.cells (fA 0) 95 (0, 0))) := by
  rw [hW3]; exact (setRow_other _ _ _ _ (by omega)).trans ((heap_alloc_old _ _ (by omega)).trans R1.out)
 have B2 : Hid (W3.heap[q]? = some (.cells (fA (rxD a 0)) 95 (0, 0))) := by
  rw [hW3, hq]
  show _ = some (Obj.cells (fA (mP (sqN 1 (onesN a 251)) 1)) _ _)
  rw [← E0.out, ← E1.out]
  exact setRow_heap _ _ _ _ _ _ (heap_alloc_new _ _)
 have BB : Hid (Below w.heap.size w W3) := by
  rw [hW3]; exact below_setRow (BL.out.alloc BL.out.size _) (by omega) _
 rw [← hW3, ← hq]
 clear hW3 hq R0 R1 BL E1 E0 Hx0
 go_loopw [5] (fun kV wr => ∃ (k : Nat), k ≤ 2 ∧ kV = .int .i64 k ∧ Hid (∀ j, j < k → ¬ mP (rxD a j) (rxD a j) = a) ∧ Hid (wr.heap[w.heap.size]? = some (.cells (fA a) 95 (0, 0))) ∧ Hid (wr.heap[w.heap.size + 1]? = some (.cells (fA 0) 95 (0, 0))) ∧ Hid (wr.heap[q]? = some (.cells (fA (rxD a k)) 95 (0, 0))) ∧ Hid (Below w.heap.size w wr)) (fun k _ => 2 - (intOf k).toNat)
 case atStart => exact ⟨0, by omega, rfl, hide (fun j h => by omega), B0, B1, B2, BB⟩
 case round =>
  clear B0 B1 B2 BB
  obtain ⟨k, hk, rfl, HN, H0, H1, H2, HB⟩ := hrel
  by_cases hlt : k < 2
  ·
   have bk : (k : Int) < 2 := by omega
   obtain ⟨x, HX⟩ : ∃ x, Hid (x = rxD a k) := ⟨_, rfl⟩
   have Hx : Hid (x < P) := by rw [HX.out]; exact rxD_lt a k
   rw [← HX.out] at H2
   go_wp2_with (first | (refine wpList_load_row (by rfl) 95 (.tmp 4) (by rfl) q (by rfl) 95 (fA x) (0, 0) _ H2.out underF rfl (fA_size _) ?_))
   refine (mulA x x Hx.out Hx.out _).mono ?_
   rintro e W1 ⟨rfl, hB1⟩
   have H0 := hide (row_keep' H0.out hB1)
   have H1 := hide (row_keep' H1.out hB1)
   have H2 := hide (row_keep' H2.out hB1)
   have HB : Hid (Below w.heap.size w W1) := HB.out.trans (hB1.mono HB.out.size)
   clear hB1
   obtain ⟨y, EY⟩ : ∃ y, Hid (y = mP x x) := ⟨_, rfl⟩
   have Hy : Hid (y < P) := by rw [EY.out]; exact mP_lt _ _
   rw [← EY.out]
   go_upto_region 6 with (first | (refine wpList_store_row (by rfl) 95 (.tmp 6) (.tmp 17) (by rfl) W1.heap.size (fA y) (by rfl) (by rfl) 95 _ (heap_alloc_new _ _) (fA_size _) (fA_old _ _) (fA_all _) ?_))
   obtain ⟨r, hr⟩ : ∃ r, r = W1.heap.size := ⟨_, rfl⟩
   obtain ⟨W2, hW2⟩ : ∃ W, W = (W1.alloc (.cells (fA 0) 95)).setRow W1.heap.size (fA y) := ⟨_, rfl⟩
   have hqr : q < r := by rw [hr]; exact lt_row H2.out
   have J0 : Hid (W2.heap[w.heap.size]? = some (.cells (fA a) 95 (0, 0))) := by
    rw [hW2]; exact (setRow_other _ _ _ _ (by omega)).trans ((heap_alloc_old _ _ (by omega)).trans H0.out)
   have J1 : Hid (W2.heap[w.heap.size + 1]? = some (.cells (fA 0) 95 (0, 0))) := by
    rw [hW2]; exact (setRow_other _ _ _ _ (by omega)).trans ((heap_alloc_old _ _ (by omega)).trans H1.out)
   have J2 : Hid (W2.heap[q]? = some (.cells (fA x) 95 (0, 0))) := by
    rw [hW2]; exact (setRow_other _ _ _ _ (by omega)).trans ((heap_alloc_old _ _ (by omega)).trans H2.out)
   have J3 : Hid (W2.heap[r]? = some (.cells (fA y) 95 (0, 0))) := by
    rw [hW2, hr]; exact setRow_heap _ _ _ _ _ _ (heap_alloc_new _ _)
   have JB : Hid (Below w.heap.size w W2) := by
    rw [hW2]; exact below_setRow (HB.out.alloc HB.out.size _) (by omega) _
   rw [← hW2, ← hr]
   clear hW2 hr H0 H1 H2 HB hz
   have heq := eqA y a Hy.out Ha.out W2
   by_cases hy : y = a
   ·
    have hd : decide (y = a) = true := decide_eq_true hy
    rw [hd] at heq
    have HY : Hid (mP (rxD a k) (rxD a k) = a) := by rw [← HX.out, ← EY.out]; exact hy
    clear hd hy
    go_wp2_with (first
     | (refine wpList_load_row (by rfl) 95 (.tmp 6) (by rfl) r (by rfl) 95 (fA y) (0, 0) _ J3.out underF rfl (fA_size _) ?_)
     | (refine wpList_load_row (by rfl) 95 (.tmp 1) (by rfl) w.heap.size (by rfl) 95 (fA a) (0, 0) _ J0.out underF rfl (fA_size _) ?_)
     | (refine wpList_load_row (by rfl) 95 (.tmp 4) (by rfl) q (by rfl) 95 (fA x) (0, 0) _ J2.out underF rfl (fA_size _) ?_)
     | (refine wpList_store_row (by rfl) 95 (.tmp 2) (.tmp 21) (by rfl) (w.heap.size + 1) (fA x) (by rfl) (by rfl) 95 _ J1.out (fA_size _) (fA_old _ _) (fA_all _) ?_))
    refine bodyPost_ret (v := .tuple #[.agg (fA x), .bool true]) (results_cell_tmp_row Tryz.results111 _ _ (w.heap.size + 1) 95 (fA x) (0, 0) _ (by rfl) (setRow_heap _ _ _ _ _ _ J1.out) underF rfl (fA_size _)) rfl ⟨?_, below_setRow JB.out (by omega) _⟩
    rw [HX.out]
    unfold rootDV rootDB
    have hk2 : k = 0 ∨ k = 1 := by omega
    rcases hk2 with rfl | rfl
    · rw [if_pos HY.out, decide_eq_true (Or.inl HY.out)]
    · rw [if_neg (HN.out 0 (by decide)), if_pos HY.out, decide_eq_true (Or.inr HY.out)]
   ·
    have hd : decide (y = a) = false := decide_eq_false hy
    rw [hd] at heq
    have HY : Hid (¬ mP (rxD a k) (rxD a k) = a) := by rw [← HX.out, ← EY.out]; exact hy
    clear hd hy
    go_wp2_with (first
     | (refine wpList_load_row (by rfl) 95 (.tmp 6) (by rfl) r (by rfl) 95 (fA y) (0, 0) _ J3.out underF rfl (fA_size _) ?_)
     | (refine wpList_load_row (by rfl) 95 (.tmp 1) (by rfl) w.heap.size (by rfl) 95 (fA a) (0, 0) _ J0.out underF rfl (fA_size _) ?_))
    clear heq
    obtain ⟨c0, c1, c2, c3, c4, c5, c6, c7, c8, c9⟩ := c10_of J2.out
    go_region_with (first
      | (go_at_call 148; (fail_if_success (have zz := K1)); refine (minus1A _).mono ?_; rintro e V1 ⟨rfl, HBx⟩; have K1 : Hid (Below W2.heap.size W2 V1) := hide (undrew HBx); obtain ⟨d0, d1, d2, d3, d4, d5, d6, d7, d8, d9⟩ := c10_of (row_below J2.out K1.out (lt_row J2.out)); clear HBx)
      | (go_at_call 63; (have zz := K1; clear zz); refine (mulA x m1D Hx.out m1D_lt _).mono ?_; rintro e V2 ⟨rfl, HBx⟩; have K2 : Hid (Below W2.heap.size W2 V2) := hide (K1.out.trans (HBx.mono K1.out.size)); have hst := storeRow_run (P := Tryz.prog) (cs := fA (mP x m1D)) (row_below J2.out K2.out (lt_row J2.out)) (fA_old _ _) (fA_all _); have hs10 := fA_len (mP x m1D); clear HBx)
      | fail)
    all_goals (
     clear hst hs10 c0 c1 c2 c3 c4 c5 c6 c7 c8 c9 d0 d1 d2 d3 d4 d5 d6 d7 d8 d9
     go_wp2_with fail
     have L0 := hide (row_below J0.out K2.out (lt_row J0.out))
     have L1 := hide (row_below J1.out K2.out (lt_row J1.out))
     have L2 := hide (row_below J2.out K2.out (lt_row J2.out))
     have LB : Hid (Below w.heap.size w V2) := JB.out.trans (K2.out.mono JB.out.size)
     refine ⟨⟨k + 1, by omega, by go_num, ?_, (setRow_other _ _ _ _ (by omega)).trans L0.out, (setRow_other _ _ _ _ (by omega)).trans L1.out, ?_, below_setRow LB.out (by omega) _⟩, by simp [intOf]; omega⟩
     ·
      intro j hj
      rcases Nat.lt_or_ge j k with h | h
      · exact HN.out j h
      ·
       obtain rfl : j = k := by omega
       exact HY.out
     ·
      show _ = some (Obj.cells (fA (mP (rxD a k) m1D)) _ _)
      rw [← HX.out]
      exact setRow_heap _ _ _ _ _ _ L2.out)
  ·
   obtain rfl : k = 2 := by omega
   have bk : (2 : Int) ≤ ((2 : Nat) : Int) := by omega
   go_wp2_with (first | (refine wpList_store_row (by rfl) 95 (.tmp 2) (.tmp 25) (by rfl) (w.heap.size + 1) (fA 0) (by rfl) (by rfl) 95 _ H1.out (fA_size _) (fA_old _ _) (fA_all _) ?_))
   refine bodyPost_ret (v := .tuple #[.agg (fA 0), .bool false]) (results_cell_tmp_row Tryz.results111 _ _ (w.heap.size + 1) 95 (fA 0) (0, 0) _ (by rfl) (setRow_heap _ _ _ _ _ _ H1.out) underF rfl (fA_size _)) rfl ⟨?_, below_setRow HB.out (by omega) _⟩
   unfold rootDV rootDB
   have n0 := HN.out 0 (by decide)
   have n1 := HN.out 1 (by decide)
   rw [if_neg n0, if_neg n1, decide_eq_false (fun h => h.elim n0 n1)]
end
section
attribute [local go_sem] U_and U_or U_xor U_not U_add U_add_one
attribute [local go_sem ↓] Go.wp_at_zero Go.wp_at_succ
theorem getBlk_any (b k n cap : Nat) (H : HS) (w : World) (hn : 8 ≤ n) (hm : n ≤ 9223372036854775807)
  (hc : ∀ i, i < 8 → w.cell? ⟨b, 8 + 8 * k + i, none⟩ = some (.int .u8 (C8 (H.blk.getD (8 * k + i) 0)))) :
  Calls Tryz.prog 163 #[.slice (some ⟨b, 8 + 8 * k, none⟩) n cap] w fun e w' => e = .returned (.int .u64 (U (w16 H.blk k))) ∧ w' = w :=
 getWord_any b (8 + 8 * k) n cap (fun i => H.blk.getD (8 * k + i) 0) w hn hm hc
theorem row_store_far {w : World} {g g' : Nat} {o : Obj} (i : Nat) (v : Value) (h : w.heap[g]? = some o) (hne : g ≠ g') : (w.setCell ⟨g', i, none⟩ v).heap[g]? = some o := by
 rw [Below.heap_setCell _ _ _ _ (by exact hne)]; exact h
theorem sch_row_step {wr : World} {g : Nat} {T : TypeId} {blk : List UInt8} {n : Nat} (hn : n < 64) (h : wr.heap[g]? = some (.cells (wrow (sch blk n)).toArray T (0, 0))) :
  (wr.setCell ⟨g, 16 + n, none⟩ (uv (nextW (sch blk n) n))).heap[g]? = some (.cells (wrow (sch blk (n + 1))).toArray T (0, 0)) := by
 have e := row_store h (16 + n) (uv (nextW (sch blk n) n))
 have e2 := wrow_set (sch blk n) (nextW (sch blk n) n) (by rw [sch_length]; omega)
 rw [sch_length] at e2
 rw [e2] at e
 exact e
theorem w16_row_step {wr : World} {g : Nat} {T : TypeId} {blk : List UInt8} {n : Nat} (hn : n < 16) (h : wr.heap[g]? = some (.cells (wrow (w16s blk n)).toArray T (0, 0))) :
  (wr.setCell ⟨g, n, none⟩ (uv (w16 blk n))).heap[g]? = some (.cells (wrow (w16s blk (n + 1))).toArray T (0, 0)) := by
 have e := row_store h n (uv (w16 blk n))
 have e2 := wrow_set (w16s blk n) (w16 blk n) (by rw [w16s_length]; omega)
 rw [w16s_length] at e2
 rw [e2] at e
 exact e
theorem wcell {wr : World} {g : Nat} {T : TypeId} {l : List (BitVec 64)} (h : wr.heap[g]? = some (.cells (wrow l).toArray T (0, 0))) (i : Nat) (hi : i < l.length) :
  wr.cell? ⟨g, i, none⟩ = some (.int .u64 (U (l.getD i 0))) :=
 (cell_of_row wr g i _ _ _ h).trans (by simpa using wrow_get l i hi)
theorem cell_store_far {w : World} {g i j : Nat} {v u : Value} (h : w.cell? ⟨g, i, none⟩ = some u) (hne : j ≠ i) : (w.setCell ⟨g, j, none⟩ v).drew.cell? ⟨g, i, none⟩ = some u := by
 rw [World.cell?_drew, World.cell?_setCell_other _ _ _ _ (by intro e; exact hne (congrArg Addr.off e))]; exact h
set_option maxRecDepth 100000 in
set_option maxHeartbeats 4000000 in
theorem spread_any (b : Nat) (T : TypeId) (H : HS) (w : World) (h : Has w b T H) :
  Calls Tryz.prog 153 #[.pointer (some ⟨b, 0, none⟩)] w fun e w' => e = .returned (.agg (wrow (sch H.blk 64)).toArray) ∧ Below w.heap.size w w' := by
 have hz := zero80
 have HH : Hid (Has w b T H) := h
 have hb : b < w.heap.size := h.lt
 clear h
 go_enter Tryz.func153, Tryz.ntmps153
 go_wp2_with fail
 go_loopw [6] (fun i wr => ∃ k : Nat, k ≤ 16 ∧ i = .int .i64 k ∧ Hid (wr.heap[w.heap.size + 1]? = some (.cells (wrow (w16s H.blk k)).toArray 257 (0, 0))) ∧
   Hid (wr.heap[w.heap.size]? = some (.cells (wrow []).toArray 257 (0, 0))) ∧ Below w.heap.size w wr) (fun i _ => 16 - (intOf i).toNat)
 case atStart => exact ⟨0, Nat.zero_le _, rfl, heap_alloc2_new _ _ _, heap_alloc2_old _ _ _, ((Below.refl _ _).alloc (Nat.le_refl _) _).alloc (by simp) _⟩
 case round =>
  obtain ⟨k, hk, rfl, hr, hr0, hbel⟩ := hrel
  by_cases hlt : k < 16
  ·
   obtain ⟨v0, hv0⟩ := wrow_there (w16s H.blk k) k (by omega) (by rw [w16s_length]; omega)
   have hcell : wr.cell? ⟨w.heap.size + 1, k, none⟩ = some v0 := (cell_of_row wr (w.heap.size + 1) k _ _ _ hr.out).trans (by simpa using hv0)
   have hfr := frozen_of_row wr (w.heap.size + 1) k _ _ hr.out
   have hsl := slice128 b 8 (8 * (k : Int)) (8 * k) (by omega) (by omega)
   clear hv0 hz
   go_wp2_with fail
   refine (getBlk_any b k (128 - 8 * k) (128 - 8 * k) H _ (by omega) (by omega) ?_).mono ?_
   ·
    intro i hi
    have hc := HH.out.cell (8 + (8 * k + i))
    rw [H.row_blk (8 * k + i) (by rw [HH.out.len]; omega)] at hc
    rw [← Nat.add_assoc] at hc
    exact (hbel.cell (by exact hb)).trans hc
   ·
    rintro e w' ⟨rfl, rfl⟩
    go_wp2_with fail
    go_roundw
    case rel => exact ⟨k + 1, by omega, by go_num, w16_row_step hlt hr.out, row_store_far _ _ hr0.out (by omega), hbel.setCell (by simp) _⟩
    case measure => simp [intOf]; omega
  ·
   have hk16 : k = 16 := by omega
   have hr' : Hid (wr.heap[w.heap.size + 1]? = some (.cells (wrow (sch H.blk 0)).toArray 257 (0, 0))) := by have := hr.out; rw [hk16] at this; exact this
   have hk16' : (16 : Int) ≤ (k : Int) := by omega
   clear hz hr hk hk16 hlt
   go_wp2_with fail
   go_loopw [5] (fun i wr => ∃ n m : Nat, n ≤ 64 ∧ Hid (m = 16 + n) ∧ i = .int .i64 m ∧ Hid (wr.heap[w.heap.size + 1]? = some (.cells (wrow (sch H.blk n)).toArray 257 (0, 0))) ∧
    Hid (wr.heap[w.heap.size]? = some (.cells (wrow []).toArray 257 (0, 0))) ∧ Below w.heap.size w wr) (fun i _ => 80 - (intOf i).toNat)
   case atStart => exact ⟨0, 16, Nat.zero_le _, rfl, rfl, hr', hr0, hbel⟩
   case round =>
    clear hr' hr0 hbel
    obtain ⟨n, m, hn, hm, rfl, hr, hr0, hbel⟩ := hrel
    by_cases hlt : n < 64
    ·
     have hl := sch_length H.blk n
     have hm' := hm.out
     obtain ⟨m2, hm2⟩ : ∃ m2, m2 = n + 14 := ⟨_, rfl⟩
     obtain ⟨m7, hm7⟩ : ∃ m7, m7 = n + 9 := ⟨_, rfl⟩
     obtain ⟨m15, hm15⟩ : ∃ m15, m15 = n + 1 := ⟨_, rfl⟩
     have c2 := wcell hr.out m2 (by omega)
     have c7 := wcell hr.out m7 (by omega)
     have c15 := wcell hr.out m15 (by omega)
     have c16 := wcell hr.out n (by omega)
     have e2 : IntKind.i64.wrap ((m : Int) - 2) = (m2 : Int) := by rw [IntKind.wrap_i64]; omega
     have e7 : IntKind.i64.wrap ((m : Int) - 7) = (m7 : Int) := by rw [IntKind.wrap_i64]; omega
     have e15 : IntKind.i64.wrap ((m : Int) - 15) = (m15 : Int) := by rw [IntKind.wrap_i64]; omega
     have e16 : IntKind.i64.wrap ((m : Int) - 16) = (n : Int) := by rw [IntKind.wrap_i64]; omega
     have b2 : (m2 : Int) < 80 := by omega
     have b7 : (m7 : Int) < 80 := by omega
     have b15 : (m15 : Int) < 80 := by omega
     have b16 : (n : Int) < 80 := by omega
     have bm : (m : Int) < 80 := by omega
     have n2 : m ≠ m2 := by omega
     have n7 : m ≠ m7 := by omega
     have n15 : m ≠ m15 := by omega
     have n16 : m ≠ n := by omega
     obtain ⟨v0, hv0⟩ := wrow_there (sch H.blk n) m (by omega) (by rw [sch_length]; omega)
     have hcell := (cell_of_row _ (w.heap.size + 1) m _ _ _ hr.out).trans (by simpa using hv0)
     have hfr := frozen_of_row _ (w.heap.size + 1) m _ _ hr.out
     clear hv0
     generalize hx2 : (sch H.blk n).getD m2 0 = x2 at c2
     generalize hx7 : (sch H.blk n).getD m7 0 = x7 at c7
     generalize hx15 : (sch H.blk n).getD m15 0 = x15 at c15
     generalize hx16 : (sch H.blk n).getD n 0 = x16 at c16
     have HX : Hid (smallSigma1W x2 + x7 + smallSigma0W x15 + x16 = nextW (sch H.blk n) n) := by
      show _ = _
      unfold nextW; rw [← hx2, ← hx7, ← hx15, ← hx16, hm2, hm7, hm15]
     clear hx2 hx7 hx15 hx16 hl hm2 hm7 hm15 hm'
     go_wp2_with fail
     go_region_held3 (fun w' => w'.cell? ⟨w.heap.size + 1, m2, none⟩ = some (.int .u64 (U x2)) ∧ w'.cell? ⟨w.heap.size + 1, m7, none⟩ = some (.int .u64 (U x7)) ∧ w'.cell? ⟨w.heap.size + 1, m15, none⟩ = some (.int .u64 (U x15)) ∧ w'.cell? ⟨w.heap.size + 1, n, none⟩ = some (.int .u64 (U x16))) (first | exact ⟨cell_store_far c2 n2, cell_store_far c7 n7, cell_store_far c15 n15, cell_store_far c16 n16⟩ | go_keep)
      (first | (go_at_call 164; refine (smallSigma1_any x2 _).mono ?_; rintro e w' ⟨rfl, rfl⟩) | (go_at_call 165; refine (smallSigma0_any x15 _).mono ?_; rintro e w' ⟨rfl, rfl⟩))
     clear c2 c7 c15 c16 hcell hfr n2 n7 n15 n16 e2 e7 e15 e16 b2 b7 b15 b16
     go_wp2
     go_roundw
     case rel =>
      refine ⟨n + 1, m + 1, by omega, ?_, by go_num, ?_, row_store_far _ _ hr0.out (by omega), (hbel.setCell (by simp) _).drew⟩
      · have := hm.out; show m + 1 = 16 + (n + 1); omega
      · rw [HX.out, hm.out]; exact sch_row_step hlt hr.out
     case measure => simp [intOf]; omega
    ·
     obtain rfl : n = 64 := by omega
     have hm80 : m = 80 := hm.out
     have hm' : (80 : Int) ≤ (m : Int) := by omega
     clear hm hm80 hlt hn
     have hsz : (wrow (sch H.blk 64)).length = 80 := wrow_length _ (by rw [sch_length]; omega)
     have HS : Hid ((Tryz.prog.info? 257).map (·.size) = some (wrow (sch H.blk 64)).toArray.size) := by show _ = _; rw [size80]; simp [hsz]
     have HO : Hid ((wrow []).toArray.size = (wrow (sch H.blk 64)).toArray.size) := by show _ = _; simp [hsz, wrow_length]
     have HA : Hid ((wrow (sch H.blk 64)).toArray.all (·.oneCell') = true) := all_oneCell_toArray (wrow_cell _)
     clear hsz
     generalize hR : (wrow (sch H.blk 64)).toArray = R at *
     have HRq : Hid (R = (wrow (sch H.blk 64)).toArray) := hR.symm
     clear hR
     go_wp2_with (first | (refine wpList_load_row (by rfl) 257 (.tmp 3) (by rfl) (w.heap.size + 1) (by rfl) 257 R (0, 0) _ hr.out under80 rfl HS.out ?_) | (refine wpList_store_row (by rfl) 257 (.tmp 2) (.tmp 46) (by rfl) w.heap.size R (by rfl) (by rfl) 257 _ hr0.out HS.out HO.out HA.out ?_))
     refine bodyPost_ret (v := .agg R) (results_cell_row Tryz.results153 _ _ w.heap.size 257 R (0, 0) _ (by rfl) (setRow_heap _ _ _ _ _ _ hr0.out) under80 rfl HS.out) rfl ⟨by rw [HRq.out], below_setRow hbel (Nat.le_refl _) _⟩
end
end Go.Proofs.YtccgfabojbjmjaaGreatDoor
