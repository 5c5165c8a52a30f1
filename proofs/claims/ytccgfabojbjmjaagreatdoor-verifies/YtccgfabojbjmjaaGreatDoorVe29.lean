import Derived.Test.YtccgfabojbjmjaaGreatDoorVe19
namespace Go.Proofs.YtccgfabojbjmjaaGreatDoor
open Go.RowKit
abbrev oRefPof3 : Oper := ⟨some 10, .alloc 95, 0, "point.go:52", #[], none⟩
abbrev oRefPof4 : Oper := ⟨none, .store 95 (.tmp 10) (.tmp 35), 0, "point.go:52", #[zeD 3, zeD 2, zeC 2, zeP 0, zeP 1, zeP 2, zeP 3], none⟩
abbrev oRefPof10 : Oper := ⟨some 41, .move (.tmp 46), 203, "point.go:54", #[zeD 4], none⟩
abbrev oRefPof11 : Oper := ⟨some 47, .extract (.tmp 41) 0, 95, "point.go:54", #[zeD 5], none⟩
abbrev oRefPof12 : Oper := ⟨some 48, .extract (.tmp 41) 1, 4, "point.go:54", #[zeD 5, ⟨9, .gcOnly .lateStores⟩], none⟩
abbrev oRefPof13 : Oper := ⟨some 12, .alloc 95, 0, "point.go:54", #[], none⟩
abbrev oRefPof14 : Oper := ⟨none, .store 95 (.tmp 12) (.tmp 47), 0, "point.go:54", #[zeD 8, zeD 6, zeC 4, zeP 0, zeP 1, zeP 2, zeP 3, zeP 4, zeP 5, zeP 6, ⟨7, .textOnly .lateStores⟩, zeP 8], none⟩
abbrev oRefPof15 : Oper := ⟨some 13, .assign (.tmp 48), 4, "point.go:54", #[zeD 7, zeC 9, zeP 0, zeP 1, zeP 2, zeP 3, zeP 4, zeP 5, zeP 6, zeP 7, zeP 8, zeP 9], none⟩
abbrev oRefPof16 : Oper := ⟨some 69, .load 95 (.tmp 12), 95, "point.go:61", #[], none⟩
abbrev oRefPof17 : Oper := ⟨some 70, .load 95 (.tmp 7), 95, "point.go:61", #[], none⟩
abbrev oRefPof19 : Oper := ⟨some 72, .build 98 #[(0, .tmp 69), (1, .tmp 70), (2, .tmp 71)], 98, "point.go:61", #[zeD 0, zeD 1, zeD 2], none⟩
abbrev oRefPof20 : Oper := ⟨none, .store 98 (.tmp 4) (.tmp 72), 0, "point.go:61", #[zeD 3, zeC 2, zeP 0, zeP 1, zeP 2, zeP 3], none⟩
abbrev oRefPof21 : Oper := ⟨some 5, .assign (.const (.bool true)), 4, "point.go:61", #[zeC 4, zeP 0, zeP 1, zeP 2, zeP 3, zeP 4], none⟩
def oddOf (s : ByteArray) : Bool := decide (128 ≤ ((bytesOf s).getD 31 0).toNat)
def pofA (d y : Nat) : Nat := mP (sP (mP y y) 1) (invD (aP (mP d (mP y y)) 1))
theorem pofA_lt (d y : Nat) : pofA d y < P := mP_lt _ _
def pofR (d y : Nat) : Nat := rootDV (pofA d y)
def pofX (d y : Nat) (odd : Bool) : Nat := if decide (pofR d y % 2 = 1) != odd then sP 0 (pofR d y) else pofR d y
def pofB (d : Nat) (s : ByteArray) : Bool := decide (s.size = 32) && (decide (yOf s = yOf s % P) && (rootDB (pofA d (yOf s % P)) && !(decide (pofR d (yOf s % P) = 0) && oddOf s)))
def pofQ (d : Nat) (s : ByteArray) : Q3 := if pofB d s = true then ⟨pofX d (yOf s % P) (oddOf s), yOf s % P, 1⟩ else q0
theorem oneP : 1 < P := by decide
theorem fc0 (r : Nat) : (fd r).getD 0 0 = ((r % 67108864 : Nat) : Int) := by rw [fd_get r 0 (by decide), Nat.pow_zero, Nat.div_one]
section
attribute [local irreducible] fA fL qA fc
set_option maxRecDepth 100000 in
set_option maxHeartbeats 4000000 in
theorem pointOfA (d : Nat) (s : ByteArray) (hd : d < P) (w : World) :
  Calls Tryz.prog 68 #[.agg (fA d), .string s] w fun e w' => e = .returned (.tuple #[.agg (qA (pofQ d s)), .bool (pofB d s)]) ∧ Below w.heap.size w w' := by
 have hz := zeroFA
 have hzq := zeroQ
 have Hd := hide hd
 clear hd
 go_enter Tryz.func68, Tryz.ntmps68
 go_upto_region 1 with fail
 obtain ⟨W0, hW0⟩ : ∃ W, W = (w.alloc (.cells (fA d) 95)).alloc (.cells (qA q0) 98) := ⟨_, rfl⟩
 have R0 : Hid (W0.heap[w.heap.size]? = some (.cells (fA d) 95 (0, 0))) := by rw [hW0]; exact at2_0 _ _ _
 have RZ : Hid (W0.heap[w.heap.size + 1]? = some (.cells (qA q0) 98 (0, 0))) := by rw [hW0]; exact at2_1 _ _ _
 have BL : Hid (Below w.heap.size w W0) := by rw [hW0]; show Below _ _ _; go_grown
 rw [← hW0]
 clear hW0
 by_cases h32 : s.size = 32
 case neg =>
  have hbne : ((s.size : Int) != 32) = true := by rw [bne_iff_ne]; omega
  have HB : Hid (pofB d s = false) := by show _ = _; unfold pofB; rw [decide_eq_false h32]; rfl
  clear h32
  go_wp2_with (first | (refine wpList_store_row (by rfl) 98 (.tmp 4) (.tmp 17) (by rfl) (w.heap.size + 1) (qA q0) (by rfl) (by rfl) 98 _ RZ.out (qA_size _) (qA_old _ _) (qA_all _) ?_))
  refine bodyPost_ret (v := .tuple #[.agg (qA q0), .bool false]) (results_cell_tmp_row Tryz.results68 _ _ (w.heap.size + 1) 98 (qA q0) (0, 0) _ (by rfl) (setRow_heap _ _ _ _ _ _ RZ.out) Tryz.underlying98 rfl (qA_size _)) rfl ⟨?_, below_setRow BL.out (by omega) _⟩
  unfold pofQ
  rw [HB.out, if_neg (by decide)]
 case pos =>
 have hbne : ((s.size : Int) != 32) = false := by rw [h32]; rfl
 have H32 := hide h32
 have hidx : ∀ w, (Instr.index 9 (.string s) (.int .i64 31)).run Tryz.prog w = .ok (.int .u8 (C8 ((bytesOf s).getD 31 0))) w := strAt s 31 (by omega)
 obtain ⟨c, HC⟩ : ∃ c, Hid (c = (bytesOf s).getD 31 0) := ⟨_, rfl⟩
 rw [← HC.out] at hidx
 have hcl := c.toNat_lt
 obtain ⟨ov, HO⟩ : ∃ o : Int, Hid (o = if oddOf s = true then 1 else 0) := ⟨_, rfl⟩
 have ho1 : IntKind.i64.wrap (C8 c) = C8 c := by unfold C8; rw [IntKind.wrap_i64]; omega
 have ho3 : C8 c / 128 = ov := by
  rw [HO.out]; unfold oddOf C8; rw [← HC.out]
  by_cases h : 128 ≤ c.toNat
  · rw [decide_eq_true h, if_pos rfl]; omega
  · rw [decide_eq_false h, if_neg (by simp)]; omega
 have ho4 : 0 ≤ C8 c := C8_nonneg c
 have ho5 : wrap64 ((C8 c).tdiv 128) = ov := by
  rw [Int.tdiv_eq_ediv_of_nonneg ho4, ho3, HO.out]
  cases oddOf s <;> kernel_rfl
 clear h32 hcl
 go_upto_region 4 with fail
 rw [ho5]
 clear hidx ho1 ho3 ho4 ho5 hbne
 go_wp2_with fail
 refine (fieldOfA s H32.out _).mono ?_
 rintro e W1 ⟨rfl, hB1⟩
 have R0 := hide (row_keep' R0.out hB1)
 have RZ := hide (row_keep' RZ.out hB1)
 have BL := kTr BL hB1
 clear hB1
 obtain ⟨y, Ey⟩ : ∃ y, Hid (y = yOf s % P) := ⟨_, rfl⟩
 have Hy : Hid (y < P) := by rw [Ey.out]; exact Nat.mod_lt _ P_pos
 rw [← Ey.out]
 obtain ⟨yb, Eyb⟩ : ∃ b, Hid (b = decide (yOf s = y)) := ⟨_, rfl⟩
 rw [← Eyb.out]
 go_upto_region 5 with (first | (refine wpList_store_row (by rfl) 95 (.tmp 7) (.tmp 25) (by rfl) W1.heap.size (fA y) (by rfl) (by rfl) 95 _ (heap_alloc_new _ _) (fA_size _) (fA_old _ _) (fA_all _) ?_))
 obtain ⟨gy, hgy⟩ : ∃ q, q = W1.heap.size := ⟨_, rfl⟩
 obtain ⟨W2, hW2⟩ : ∃ W, W = (W1.alloc (.cells (fA 0) 95)).setRow W1.heap.size (fA y) := ⟨_, rfl⟩
 have lR0gy : w.heap.size < gy := by rw [hgy]; exact lt_row R0.out
 have lRZgy : w.heap.size + 1 < gy := by rw [hgy]; exact lt_row RZ.out
 have R0' : Hid (W2.heap[w.heap.size]? = some (.cells (fA d) 95 (0, 0))) := by rw [hW2]; exact (setRow_other _ _ _ _ (by omega)).trans ((heap_alloc_old _ _ (by omega)).trans R0.out)
 have RZ' : Hid (W2.heap[w.heap.size + 1]? = some (.cells (qA q0) 98 (0, 0))) := by rw [hW2]; exact (setRow_other _ _ _ _ (by omega)).trans ((heap_alloc_old _ _ (by omega)).trans RZ.out)
 have RY : Hid (W2.heap[gy]? = some (.cells (fA y) 95 (0, 0))) := by rw [hW2, hgy]; exact setRow_heap _ _ _ _ _ _ (heap_alloc_new _ _)
 have BL' : Hid (Below w.heap.size w W2) := by rw [hW2]; exact below_setRow (BL.out.alloc BL.out.size _) BL.out.size _
 rw [← hW2, ← hgy]
 clear hW2 hgy BL R0 RZ
 have R0 := R0'
 have RZ := RZ'
 have BL := BL'
 clear R0' RZ' BL'
 cases yb
 case false =>
  have HB : Hid (pofB d s = false) := by show _ = _; unfold pofB; rw [← Ey.out, ← Eyb.out]; simp
  go_wp2_with (first | (refine wpList_store_row (by rfl) 98 (.tmp 4) (.tmp 29) (by rfl) (w.heap.size + 1) (qA q0) (by rfl) (by rfl) 98 _ RZ.out (qA_size _) (qA_old _ _) (qA_all _) ?_))
  refine bodyPost_ret (v := .tuple #[.agg (qA q0), .bool false]) (results_cell_tmp_row Tryz.results68 _ _ (w.heap.size + 1) 98 (qA q0) (0, 0) _ (by rfl) (setRow_heap _ _ _ _ _ _ RZ.out) Tryz.underlying98 rfl (qA_size _)) rfl ⟨?_, below_setRow BL.out (by omega) _⟩
  unfold pofQ
  rw [HB.out, if_neg (by decide)]
 case true =>
 go_wp2_with (first | (refine wpList_load_row (by rfl) 95 (.tmp 7) (by rfl) (gy) (by rfl) 95 (fA y) (0, 0) _ RY.out underF rfl (fA_size _) ?_))
 refine (mulA y y Hy.out Hy.out _).mono ?_
 rintro e W3 ⟨rfl, hB3⟩
 have R0 := hide (row_keep' R0.out hB3)
 have RZ := hide (row_keep' RZ.out hB3)
 have RY := hide (row_keep' RY.out hB3)
 have BL := kTr BL hB3
 clear hB3
 obtain ⟨yy, Eyy⟩ : ∃ x, Hid (x = mP y y) := ⟨_, rfl⟩
 have Hyy : Hid (yy < P) := by rw [Eyy.out]; exact mP_lt _ _
 rw [← Eyy.out]
 go_wp2_with (first | (refine wpList_store_row (by rfl) 95 (.tmp 9) (.tmp 32) (by rfl) W3.heap.size (fA yy) (by rfl) (by rfl) 95 _ (heap_alloc_new _ _) (fA_size _) (fA_old _ _) (fA_all _) ?_))
 obtain ⟨gyy, hgyy⟩ : ∃ q, q = W3.heap.size := ⟨_, rfl⟩
 obtain ⟨W4, hW4⟩ : ∃ W, W = (W3.alloc (.cells (fA 0) 95)).setRow W3.heap.size (fA yy) := ⟨_, rfl⟩
 have lR0gyy : w.heap.size < gyy := by rw [hgyy]; exact lt_row R0.out
 have lRZgyy : w.heap.size + 1 < gyy := by rw [hgyy]; exact lt_row RZ.out
 have lRYgyy : gy < gyy := by rw [hgyy]; exact lt_row RY.out
 have R0' : Hid (W4.heap[w.heap.size]? = some (.cells (fA d) 95 (0, 0))) := by rw [hW4]; exact (setRow_other _ _ _ _ (by omega)).trans ((heap_alloc_old _ _ (by omega)).trans R0.out)
 have RZ' : Hid (W4.heap[w.heap.size + 1]? = some (.cells (qA q0) 98 (0, 0))) := by rw [hW4]; exact (setRow_other _ _ _ _ (by omega)).trans ((heap_alloc_old _ _ (by omega)).trans RZ.out)
 have RY' : Hid (W4.heap[gy]? = some (.cells (fA y) 95 (0, 0))) := by rw [hW4]; exact (setRow_other _ _ _ _ (by omega)).trans ((heap_alloc_old _ _ (by omega)).trans RY.out)
 have RYY : Hid (W4.heap[gyy]? = some (.cells (fA yy) 95 (0, 0))) := by rw [hW4, hgyy]; exact setRow_heap _ _ _ _ _ _ (heap_alloc_new _ _)
 have BL' : Hid (Below w.heap.size w W4) := by rw [hW4]; exact below_setRow (BL.out.alloc BL.out.size _) BL.out.size _
 rw [put_none', ← hW4, ← hgyy]
 clear hW4 hgyy BL R0 RZ RY
 have R0 := R0'
 have RZ := RZ'
 have RY := RY'
 have BL := BL'
 clear R0' RZ' RY' BL'
 go_cut [10] from 33 to 35 (fun s wx => ∃ g, s = .pointer (some ⟨g, 0, none⟩) ∧ Hid (W4.heap.size ≤ g) ∧ Hid (wx.heap[g]? = some (.cells (fA (sP yy 1)) 95 (0, 0))) ∧ Hid (Below W4.heap.size W4 wx))
 case first =>
  refine wp_region_held_drew (S := fun w' => w'.rangeAt (gyy) 0 (fL yy)) (by kernel_rfl) (by exact rangeL RYY.out) (fun hHeld => ?_)
  obtain ⟨V1, hV1⟩ : ∃ V, V = W4.drew := ⟨_, rfl⟩
  rw [← hV1] at hHeld ⊢
  have KV1 : Hid (Below W4.heap.size W4 V1) := by rw [hV1]; exact (Below.refl _ _).drew
  clear hV1
  refine wpAnyH_take (i := 0) (oi := ⟨some 33, .load 95 (.tmp 9), 95, "point.go:52", #[], none⟩) (v := .agg (fA yy)) rfl (by kernel_rfl) (by kernel_rfl) (by kernel_rfl) (fun _ _ _ h => h) (yldF (by rfl) _ rfl (gyy) 0 yy rfl (fun w h => h)) hHeld ?_
  simp only [zaP, zsT, zsZ, zsS]
  refine wpAnyH_ready (rs := [1, 3]) (by kernel_rfl) (by simp) ?_
  refine AllReadyH.cons (o := ⟨some 34, .call ⟨.value (.func 65), #[.const (.int .i64 1)], #[3]⟩, 95, "point.go:52", #[], none⟩) rfl (fun K hK => ?_) ?_
  ·
   refine step_callTo (by rfl) _ _ (hrunSmall _ rfl (.int .i64 1) rfl V1) _ _ (smallOne V1) (fun V2 HBx => ?_)
   have KV2 := kTr KV1 HBx
   clear HBx
   refine hK.out _ _ ?_ (fun hHeld => ?_)
   · exact kLm RYY KV2
   clear hK K
   try simp only [zaP, zsT, zsZ, zsS]
   refine wpAnyH_ready (rs := [2, 3]) (by kernel_rfl) (by simp) ?_
   refine AllReadyH.cons (o := ⟨some 35, .call ⟨.value (.func 64), #[.tmp 33, .tmp 34], #[95, 95]⟩, 95, "point.go:52", #[zeD 0, zeD 1, zeC 1], none⟩) rfl (fun K hK => ?_) ?_
   ·
    refine step_callTo (by rfl) _ _ (hrunSub _ _ rfl (.agg (fA yy)) (.agg (fA 1)) rfl rfl V2) _ _ (subA' yy 1 Hyy.out oneP V2) (fun V3 HBx => ?_)
    have KV3 := kTr KV2 HBx
    clear HBx
    refine hK.out _ _ ?_ (fun hHeld => ?_)
    · exact kLm RYY KV3
    clear hK K
    try simp only [zaP, zsT, zsZ, zsS]
    refine wpAnyH_ready (rs := [3]) (by kernel_rfl) (by simp) ?_
    refine AllReadyH.cons (o := oRefPof3) rfl (fun K hK => ?_) ?_
    ·
     refine step_runTo (w' := V3.alloc (.cells (fA 0) 95)) (by rfl) (.pointer (some ⟨V3.heap.size, 0, none⟩)) (hrunAllocF rfl V3) ?_
     obtain ⟨g4, hg4⟩ : ∃ g, g = V3.heap.size := ⟨_, rfl⟩
     have ZN : Hid ((V3.alloc (.cells (fA 0) 95)).heap[g4]? = some (.cells (fA 0) 95 (0, 0))) := by rw [hg4]; exact heap_alloc_new _ _
     have KV4 := kAl KV3 (.cells (fA 0) 95)
     have GG : Hid (W4.heap.size ≤ g4) := by rw [hg4]; exact KV3.out.size
     rw [← hg4]
     obtain ⟨V4, hV4⟩ : ∃ V, V = V3.alloc (.cells (fA 0) 95) := ⟨_, rfl⟩
     rw [← hV4] at ZN KV4 ⊢
     clear hV4 hg4
     refine hK.out _ _ ?_ (fun hHeld => ?_)
     · exact kLm RYY KV4
     clear hK K
     try simp only [zaP, zsT, zsZ, zsS]
     refine wpAnyH_ready (rs := [4]) (by kernel_rfl) (by simp) ?_
     refine AllReadyH.cons (o := oRefPof4) rfl (fun K hK => ?_) ?_
     ·
      refine step_store_row _ (by rfl) 95 (.tmp 10) (.tmp 35) (by rfl) (g4) (fA (sP yy 1)) (by rfl) (by rfl) 95 _ ZN.out (fA_size _) (fA_old _ _) (fA_all _) ?_
      rw [put_none']
      refine hK.out _ _ ?_ (fun hHeld => ?_)
      · exact range_set (kLm RYY KV4) (Nat.ne_of_lt (Nat.lt_of_lt_of_le (lt_row RYY.out) GG.out))
      clear hK K
      try simp only [zaP, zsT, zsZ, zsS]
      refine wpAnyH_done (by kernel_rfl) ?_ _
      go_wp2_with fail
      go_meet
      case rel => exact ⟨g4, rfl, GG, hide (setRow_heap _ _ _ _ _ _ ZN.out), hide (below_setRow KV4.out GG.out _)⟩
     exact AllReadyH.nil
    exact AllReadyH.nil
   refine AllReadyH.cons (o := oRefPof3) rfl (fun K hK => ?_) ?_
   ·
    refine step_runTo (w' := V2.alloc (.cells (fA 0) 95)) (by rfl) (.pointer (some ⟨V2.heap.size, 0, none⟩)) (hrunAllocF rfl V2) ?_
    obtain ⟨g5, hg5⟩ : ∃ g, g = V2.heap.size := ⟨_, rfl⟩
    have ZN : Hid ((V2.alloc (.cells (fA 0) 95)).heap[g5]? = some (.cells (fA 0) 95 (0, 0))) := by rw [hg5]; exact heap_alloc_new _ _
    have KV5 := kAl KV2 (.cells (fA 0) 95)
    have GG : Hid (W4.heap.size ≤ g5) := by rw [hg5]; exact KV2.out.size
    rw [← hg5]
    obtain ⟨V5, hV5⟩ : ∃ V, V = V2.alloc (.cells (fA 0) 95) := ⟨_, rfl⟩
    rw [← hV5] at ZN KV5 ⊢
    clear hV5 hg5
    refine hK.out _ _ ?_ (fun hHeld => ?_)
    · exact kLm RYY KV5
    clear hK K
    try simp only [zaP, zsT, zsZ, zsS]
    refine wpAnyH_ready (rs := [2]) (by kernel_rfl) (by simp) ?_
    refine AllReadyH.cons (o := ⟨some 35, .call ⟨.value (.func 64), #[.tmp 33, .tmp 34], #[95, 95]⟩, 95, "point.go:52", #[zeD 0, zeD 1, zeC 1], none⟩) rfl (fun K hK => ?_) ?_
    ·
     refine step_callTo (by rfl) _ _ (hrunSub _ _ rfl (.agg (fA yy)) (.agg (fA 1)) rfl rfl V5) _ _ (subA' yy 1 Hyy.out oneP V5) (fun V6 HBx => ?_)
     have KV6 := kTr KV5 HBx
     have ZN := hide (row_keep' ZN.out HBx)
     clear HBx
     refine hK.out _ _ ?_ (fun hHeld => ?_)
     · exact kLm RYY KV6
     clear hK K
     try simp only [zaP, zsT, zsZ, zsS]
     refine wpAnyH_ready (rs := [4]) (by kernel_rfl) (by simp) ?_
     refine AllReadyH.cons (o := oRefPof4) rfl (fun K hK => ?_) ?_
     ·
      refine step_store_row _ (by rfl) 95 (.tmp 10) (.tmp 35) (by rfl) (g5) (fA (sP yy 1)) (by rfl) (by rfl) 95 _ ZN.out (fA_size _) (fA_old _ _) (fA_all _) ?_
      rw [put_none']
      refine hK.out _ _ ?_ (fun hHeld => ?_)
      · exact range_set (kLm RYY KV6) (Nat.ne_of_lt (Nat.lt_of_lt_of_le (lt_row RYY.out) GG.out))
      clear hK K
      try simp only [zaP, zsT, zsZ, zsS]
      refine wpAnyH_done (by kernel_rfl) ?_ _
      go_wp2_with fail
      go_meet
      case rel => exact ⟨g5, rfl, GG, hide (setRow_heap _ _ _ _ _ _ ZN.out), hide (below_setRow KV6.out GG.out _)⟩
     exact AllReadyH.nil
    exact AllReadyH.nil
   exact AllReadyH.nil
  refine AllReadyH.cons (o := oRefPof3) rfl (fun K hK => ?_) ?_
  ·
   refine step_runTo (w' := V1.alloc (.cells (fA 0) 95)) (by rfl) (.pointer (some ⟨V1.heap.size, 0, none⟩)) (hrunAllocF rfl V1) ?_
   obtain ⟨g7, hg7⟩ : ∃ g, g = V1.heap.size := ⟨_, rfl⟩
   have ZN : Hid ((V1.alloc (.cells (fA 0) 95)).heap[g7]? = some (.cells (fA 0) 95 (0, 0))) := by rw [hg7]; exact heap_alloc_new _ _
   have KV7 := kAl KV1 (.cells (fA 0) 95)
   have GG : Hid (W4.heap.size ≤ g7) := by rw [hg7]; exact KV1.out.size
   rw [← hg7]
   obtain ⟨V7, hV7⟩ : ∃ V, V = V1.alloc (.cells (fA 0) 95) := ⟨_, rfl⟩
   rw [← hV7] at ZN KV7 ⊢
   clear hV7 hg7
   refine hK.out _ _ ?_ (fun hHeld => ?_)
   · exact kLm RYY KV7
   clear hK K
   try simp only [zaP, zsT, zsZ, zsS]
   refine wpAnyH_ready (rs := [1]) (by kernel_rfl) (by simp) ?_
   refine AllReadyH.cons (o := ⟨some 34, .call ⟨.value (.func 65), #[.const (.int .i64 1)], #[3]⟩, 95, "point.go:52", #[], none⟩) rfl (fun K hK => ?_) ?_
   ·
    refine step_callTo (by rfl) _ _ (hrunSmall _ rfl (.int .i64 1) rfl V7) _ _ (smallOne V7) (fun V8 HBx => ?_)
    have KV8 := kTr KV7 HBx
    have ZN := hide (row_keep' ZN.out HBx)
    clear HBx
    refine hK.out _ _ ?_ (fun hHeld => ?_)
    · exact kLm RYY KV8
    clear hK K
    try simp only [zaP, zsT, zsZ, zsS]
    refine wpAnyH_ready (rs := [2]) (by kernel_rfl) (by simp) ?_
    refine AllReadyH.cons (o := ⟨some 35, .call ⟨.value (.func 64), #[.tmp 33, .tmp 34], #[95, 95]⟩, 95, "point.go:52", #[zeD 0, zeD 1, zeC 1], none⟩) rfl (fun K hK => ?_) ?_
    ·
     refine step_callTo (by rfl) _ _ (hrunSub _ _ rfl (.agg (fA yy)) (.agg (fA 1)) rfl rfl V8) _ _ (subA' yy 1 Hyy.out oneP V8) (fun V9 HBx => ?_)
     have KV9 := kTr KV8 HBx
     have ZN := hide (row_keep' ZN.out HBx)
     clear HBx
     refine hK.out _ _ ?_ (fun hHeld => ?_)
     · exact kLm RYY KV9
     clear hK K
     try simp only [zaP, zsT, zsZ, zsS]
     refine wpAnyH_ready (rs := [4]) (by kernel_rfl) (by simp) ?_
     refine AllReadyH.cons (o := oRefPof4) rfl (fun K hK => ?_) ?_
     ·
      refine step_store_row _ (by rfl) 95 (.tmp 10) (.tmp 35) (by rfl) (g7) (fA (sP yy 1)) (by rfl) (by rfl) 95 _ ZN.out (fA_size _) (fA_old _ _) (fA_all _) ?_
      rw [put_none']
      refine hK.out _ _ ?_ (fun hHeld => ?_)
      · exact range_set (kLm RYY KV9) (Nat.ne_of_lt (Nat.lt_of_lt_of_le (lt_row RYY.out) GG.out))
      clear hK K
      try simp only [zaP, zsT, zsZ, zsS]
      refine wpAnyH_done (by kernel_rfl) ?_ _
      go_wp2_with fail
      go_meet
      case rel => exact ⟨g7, rfl, GG, hide (setRow_heap _ _ _ _ _ _ ZN.out), hide (below_setRow KV9.out GG.out _)⟩
     exact AllReadyH.nil
    exact AllReadyH.nil
   exact AllReadyH.nil
  exact AllReadyH.nil
 case rest =>
 obtain ⟨gu, rfl, Ggu, RU, Xgu⟩ := hcut
 obtain ⟨W5, hW⟩ : ∃ W, W = wc := ⟨_, rfl⟩
 subst hW
 have lR0gu : w.heap.size < gu := Nat.lt_of_lt_of_le (lt_row R0.out) Ggu.out
 have lRZgu : w.heap.size + 1 < gu := Nat.lt_of_lt_of_le (lt_row RZ.out) Ggu.out
 have lRYgu : gy < gu := Nat.lt_of_lt_of_le (lt_row RY.out) Ggu.out
 have lRYYgu : gyy < gu := Nat.lt_of_lt_of_le (lt_row RYY.out) Ggu.out
 have R0 := hide (row_below R0.out Xgu.out (lt_row R0.out))
 have RZ := hide (row_below RZ.out Xgu.out (lt_row RZ.out))
 have RY := hide (row_below RY.out Xgu.out (lt_row RY.out))
 have RYY := hide (row_below RYY.out Xgu.out (lt_row RYY.out))
 have BL : Hid (Below w.heap.size w W5) := BL.out.trans (Xgu.out.mono BL.out.size)
 clear Xgu Ggu
 obtain ⟨u, Eu⟩ : ∃ u, Hid (u = sP yy 1) := ⟨_, rfl⟩
 have Hu : Hid (u < P) := by rw [Eu.out]; exact sP_lt _ _
 rw [← Eu.out] at RU
 go_wp2_with (first | (refine wpList_load_row (by rfl) 95 (.tmp 2) (by rfl) (w.heap.size) (by rfl) 95 (fA d) (0, 0) _ R0.out underF rfl (fA_size _) ?_) | (refine wpList_load_row (by rfl) 95 (.tmp 9) (by rfl) (gyy) (by rfl) 95 (fA yy) (0, 0) _ RYY.out underF rfl (fA_size _) ?_))
 refine (mulA d yy Hd.out Hyy.out _).mono ?_
 rintro e W6 ⟨rfl, hB6⟩
 have R0 := hide (row_keep' R0.out hB6)
 have RZ := hide (row_keep' RZ.out hB6)
 have RY := hide (row_keep' RY.out hB6)
 have RYY := hide (row_keep' RYY.out hB6)
 have RU := hide (row_keep' RU.out hB6)
 have BL := kTr BL hB6
 clear hB6
 obtain ⟨dy, Edy⟩ : ∃ x, Hid (x = mP d yy) := ⟨_, rfl⟩
 have Hdy : Hid (dy < P) := by rw [Edy.out]; exact mP_lt _ _
 rw [← Edy.out]
 go_wp2_with fail
 refine (smallA 1 (by decide) _).mono ?_
 rintro e W7 ⟨rfl, hB7⟩
 have R0 := hide (row_keep' R0.out hB7)
 have RZ := hide (row_keep' RZ.out hB7)
 have RY := hide (row_keep' RY.out hB7)
 have RYY := hide (row_keep' RYY.out hB7)
 have RU := hide (row_keep' RU.out hB7)
 have BL := kTr BL hB7
 clear hB7
 go_wp2_with fail
 refine (addA dy 1 Hdy.out oneP _).mono ?_
 rintro e W8 ⟨rfl, hB8⟩
 have R0 := hide (row_keep' R0.out hB8)
 have RZ := hide (row_keep' RZ.out hB8)
 have RY := hide (row_keep' RY.out hB8)
 have RYY := hide (row_keep' RYY.out hB8)
 have RU := hide (row_keep' RU.out hB8)
 have BL := kTr BL hB8
 clear hB8
 obtain ⟨v, Ev⟩ : ∃ x, Hid (x = aP dy 1) := ⟨_, rfl⟩
 have Hv : Hid (v < P) := by rw [Ev.out]; exact aP_lt _ _
 rw [← Ev.out]
 go_wp2_with (first | (refine wpList_store_row (by rfl) 95 (.tmp 11) (.tmp 40) (by rfl) W8.heap.size (fA v) (by rfl) (by rfl) 95 _ (heap_alloc_new _ _) (fA_size _) (fA_old _ _) (fA_all _) ?_))
 obtain ⟨gv, hgv⟩ : ∃ q, q = W8.heap.size := ⟨_, rfl⟩
 obtain ⟨W9, hW9⟩ : ∃ W, W = (W8.alloc (.cells (fA 0) 95)).setRow W8.heap.size (fA v) := ⟨_, rfl⟩
 have lR0gv : w.heap.size < gv := by rw [hgv]; exact lt_row R0.out
 have lRZgv : w.heap.size + 1 < gv := by rw [hgv]; exact lt_row RZ.out
 have lRYgv : gy < gv := by rw [hgv]; exact lt_row RY.out
 have lRYYgv : gyy < gv := by rw [hgv]; exact lt_row RYY.out
 have lRUgv : gu < gv := by rw [hgv]; exact lt_row RU.out
 have R0' : Hid (W9.heap[w.heap.size]? = some (.cells (fA d) 95 (0, 0))) := by rw [hW9]; exact (setRow_other _ _ _ _ (by omega)).trans ((heap_alloc_old _ _ (by omega)).trans R0.out)
 have RZ' : Hid (W9.heap[w.heap.size + 1]? = some (.cells (qA q0) 98 (0, 0))) := by rw [hW9]; exact (setRow_other _ _ _ _ (by omega)).trans ((heap_alloc_old _ _ (by omega)).trans RZ.out)
 have RY' : Hid (W9.heap[gy]? = some (.cells (fA y) 95 (0, 0))) := by rw [hW9]; exact (setRow_other _ _ _ _ (by omega)).trans ((heap_alloc_old _ _ (by omega)).trans RY.out)
 have RYY' : Hid (W9.heap[gyy]? = some (.cells (fA yy) 95 (0, 0))) := by rw [hW9]; exact (setRow_other _ _ _ _ (by omega)).trans ((heap_alloc_old _ _ (by omega)).trans RYY.out)
 have RU' : Hid (W9.heap[gu]? = some (.cells (fA u) 95 (0, 0))) := by rw [hW9]; exact (setRow_other _ _ _ _ (by omega)).trans ((heap_alloc_old _ _ (by omega)).trans RU.out)
 have RV : Hid (W9.heap[gv]? = some (.cells (fA v) 95 (0, 0))) := by rw [hW9, hgv]; exact setRow_heap _ _ _ _ _ _ (heap_alloc_new _ _)
 have BL' : Hid (Below w.heap.size w W9) := by rw [hW9]; exact below_setRow (BL.out.alloc BL.out.size _) BL.out.size _
 rw [put_none', ← hW9, ← hgv]
 clear hW9 hgv BL R0 RZ RY RYY RU
 have R0 := R0'
 have RZ := RZ'
 have RY := RY'
 have RYY := RYY'
 have RU := RU'
 have BL := BL'
 clear R0' RZ' RY' RYY' RU' BL'
 go_cut [12, 13] from 41 to 48 (fun s b wx => ∃ g, s = .pointer (some ⟨g, 0, none⟩) ∧ b = .bool (rootDB (mP u (invD v))) ∧ Hid (W9.heap.size ≤ g) ∧ Hid (wx.heap[g]? = some (.cells (fA (rootDV (mP u (invD v)))) 95 (0, 0))) ∧ Hid (Below W9.heap.size W9 wx))
 case first =>
  refine wp_region_held_drew (S := fun w' => w'.rangeAt (gu) 0 (fL u) ∧ w'.rangeAt (gv) 0 (fL v)) (by kernel_rfl) (by exact ⟨rangeL RU.out, rangeL RV.out⟩) (fun hHeld => ?_)
  obtain ⟨V10, hV10⟩ : ∃ V, V = W9.drew := ⟨_, rfl⟩
  rw [← hV10] at hHeld ⊢
  have KV10 : Hid (Below W9.heap.size W9 V10) := by rw [hV10]; exact (Below.refl _ _).drew
  clear hV10
  refine wpAnyH_take (i := 0) (oi := ⟨some 42, .load 95 (.tmp 10), 95, "point.go:54", #[], none⟩) (v := .agg (fA u)) rfl (by kernel_rfl) (by kernel_rfl) (by kernel_rfl) (fun _ _ _ h => h) (yldF (by rfl) _ rfl (gu) 0 u rfl (fun w h => h.1)) hHeld ?_
  simp only [zaP, zsT, zsZ, zsS]
  refine wpAnyH_take (i := 1) (oi := ⟨some 43, .load 95 (.tmp 11), 95, "point.go:54", #[], none⟩) (v := .agg (fA v)) rfl (by kernel_rfl) (by kernel_rfl) (by kernel_rfl) (fun _ _ _ h => h) (yldF (by rfl) _ rfl (gv) 0 v rfl (fun w h => h.2)) hHeld ?_
  simp only [zaP, zsT, zsZ, zsS]
  refine wpAnyH_ready (rs := [2, 8]) (by kernel_rfl) (by simp) ?_
  refine AllReadyH.cons (o := ⟨some 44, .call ⟨.value (.func 66), #[.tmp 43], #[95]⟩, 95, "point.go:54", #[zeD 1], none⟩) rfl (fun K hK => ?_) ?_
  ·
   refine step_callTo (by rfl) _ _ (hrunInv _ rfl (.agg (fA v)) rfl V10) _ _ (inverseA v Hv.out V10) (fun V11 HBx => ?_)
   have KV11 := kTr KV10 HBx
   clear HBx
   refine hK.out _ _ ?_ (fun hHeld => ?_)
   · exact ⟨kLm RU KV11, kLm RV KV11⟩
   clear hK K
   try simp only [zaP, zsT, zsZ, zsS]
   refine wpAnyH_ready (rs := [3, 8]) (by kernel_rfl) (by simp) ?_
   refine AllReadyH.cons (o := ⟨some 45, .call ⟨.value (.func 63), #[.tmp 42, .tmp 44], #[95, 95]⟩, 95, "point.go:54", #[zeD 0, zeD 2, zeC 2], none⟩) rfl (fun K hK => ?_) ?_
   ·
    refine step_callTo (by rfl) _ _ (hrunMul _ _ rfl (.agg (fA u)) (.agg (fA (invD v))) rfl rfl V11) _ _ (mulA u (invD v) Hu.out (invD_lt _) V11) (fun V12 HBx => ?_)
    have KV12 := kTr KV11 HBx
    clear HBx
    refine hK.out _ _ ?_ (fun hHeld => ?_)
    · exact ⟨kLm RU KV12, kLm RV KV12⟩
    clear hK K
    try simp only [zaP, zsT, zsZ, zsS]
    refine wpAnyH_ready (rs := [4, 8]) (by kernel_rfl) (by simp) ?_
    refine AllReadyH.cons (o := ⟨some 46, .call ⟨.value (.func 111), #[.tmp 45], #[95]⟩, 203, "point.go:54", #[zeD 3, zeC 3], none⟩) rfl (fun K hK => ?_) ?_
    ·
     refine step_callTo (by rfl) _ _ (hrunRoot _ rfl (.agg (fA (mP u (invD v)))) rfl V12) _ _ (rootA (mP u (invD v)) (mP_lt _ _) V12) (fun V13 HBx => ?_)
     have KV13 := kTr KV12 HBx
     clear HBx
     refine hK.out _ _ ?_ (fun hHeld => ?_)
     · exact ⟨kLm RU KV13, kLm RV KV13⟩
     clear hK K
     try simp only [zaP, zsT, zsZ, zsS]
     refine wpAnyH_take (i := 5) (oi := oRefPof10) (v := .tuple #[.agg (fA (rootDV (mP u (invD v)))), .bool (rootDB (mP u (invD v)))]) rfl (by kernel_rfl) (by kernel_rfl) (by kernel_rfl) (fun _ _ _ h => h) (Or.inl ⟨by rfl, fun w _ => by go_simp⟩) hHeld ?_
     simp only [zaP, zsT, zsZ, zsS]
     refine wpAnyH_take (i := 6) (oi := oRefPof11) (v := .agg (fA (rootDV (mP u (invD v))))) rfl (by kernel_rfl) (by kernel_rfl) (by kernel_rfl) (fun _ _ _ h => h) (Or.inl ⟨by rfl, fun w _ => by go_simp⟩) hHeld ?_
     simp only [zaP, zsT, zsZ, zsS]
     refine wpAnyH_take (i := 7) (oi := oRefPof12) (v := .bool (rootDB (mP u (invD v)))) rfl (by kernel_rfl) (by kernel_rfl) (by kernel_rfl) (fun _ _ _ h => h) (Or.inl ⟨by rfl, fun w _ => by go_simp⟩) hHeld ?_
     simp only [zaP, zsT, zsZ, zsS]
     refine wpAnyH_ready (rs := [8]) (by kernel_rfl) (by simp) ?_
     refine AllReadyH.cons (o := oRefPof13) rfl (fun K hK => ?_) ?_
     ·
      refine step_runTo (w' := V13.alloc (.cells (fA 0) 95)) (by rfl) (.pointer (some ⟨V13.heap.size, 0, none⟩)) (hrunAllocF rfl V13) ?_
      obtain ⟨g14, hg14⟩ : ∃ g, g = V13.heap.size := ⟨_, rfl⟩
      have ZN : Hid ((V13.alloc (.cells (fA 0) 95)).heap[g14]? = some (.cells (fA 0) 95 (0, 0))) := by rw [hg14]; exact heap_alloc_new _ _
      have KV14 := kAl KV13 (.cells (fA 0) 95)
      have GG : Hid (W9.heap.size ≤ g14) := by rw [hg14]; exact KV13.out.size
      rw [← hg14]
      obtain ⟨V14, hV14⟩ : ∃ V, V = V13.alloc (.cells (fA 0) 95) := ⟨_, rfl⟩
      rw [← hV14] at ZN KV14 ⊢
      clear hV14 hg14
      refine hK.out _ _ ?_ (fun hHeld => ?_)
      · exact ⟨kLm RU KV14, kLm RV KV14⟩
      clear hK K
      try simp only [zaP, zsT, zsZ, zsS]
      refine wpAnyH_ready (rs := [9]) (by kernel_rfl) (by simp) ?_
      refine AllReadyH.cons (o := oRefPof14) rfl (fun K hK => ?_) ?_
      ·
       refine step_store_row _ (by rfl) 95 (.tmp 12) (.tmp 47) (by rfl) (g14) (fA (rootDV (mP u (invD v)))) (by rfl) (by rfl) 95 _ ZN.out (fA_size _) (fA_old _ _) (fA_all _) ?_
       rw [put_none']
       refine hK.out _ _ ?_ (fun hHeld => ?_)
       · exact ⟨range_set (kLm RU KV14) (Nat.ne_of_lt (Nat.lt_of_lt_of_le (lt_row RU.out) GG.out)), range_set (kLm RV KV14) (Nat.ne_of_lt (Nat.lt_of_lt_of_le (lt_row RV.out) GG.out))⟩
       clear hK K
       try simp only [zaP, zsT, zsZ, zsS]
       refine wpAnyH_take (i := 10) (oi := oRefPof15) (v := .bool (rootDB (mP u (invD v)))) rfl (by kernel_rfl) (by kernel_rfl) (by kernel_rfl) (fun _ _ _ h => h) (Or.inl ⟨by rfl, fun w _ => by go_simp⟩) hHeld ?_
       simp only [zaP, zsT, zsZ, zsS]
       refine wpAnyH_done (by kernel_rfl) ?_ _
       go_wp2_with fail
       go_meet
       case rel => exact ⟨g14, rfl, rfl, GG, hide (setRow_heap _ _ _ _ _ _ ZN.out), hide (below_setRow KV14.out GG.out _)⟩
      exact AllReadyH.nil
     exact AllReadyH.nil
    refine AllReadyH.cons (o := oRefPof13) rfl (fun K hK => ?_) ?_
    ·
     refine step_runTo (w' := V12.alloc (.cells (fA 0) 95)) (by rfl) (.pointer (some ⟨V12.heap.size, 0, none⟩)) (hrunAllocF rfl V12) ?_
     obtain ⟨g15, hg15⟩ : ∃ g, g = V12.heap.size := ⟨_, rfl⟩
     have ZN : Hid ((V12.alloc (.cells (fA 0) 95)).heap[g15]? = some (.cells (fA 0) 95 (0, 0))) := by rw [hg15]; exact heap_alloc_new _ _
     have KV15 := kAl KV12 (.cells (fA 0) 95)
     have GG : Hid (W9.heap.size ≤ g15) := by rw [hg15]; exact KV12.out.size
     rw [← hg15]
     obtain ⟨V15, hV15⟩ : ∃ V, V = V12.alloc (.cells (fA 0) 95) := ⟨_, rfl⟩
     rw [← hV15] at ZN KV15 ⊢
     clear hV15 hg15
     refine hK.out _ _ ?_ (fun hHeld => ?_)
     · exact ⟨kLm RU KV15, kLm RV KV15⟩
     clear hK K
     try simp only [zaP, zsT, zsZ, zsS]
     refine wpAnyH_ready (rs := [4]) (by kernel_rfl) (by simp) ?_
     refine AllReadyH.cons (o := ⟨some 46, .call ⟨.value (.func 111), #[.tmp 45], #[95]⟩, 203, "point.go:54", #[zeD 3, zeC 3], none⟩) rfl (fun K hK => ?_) ?_
     ·
      refine step_callTo (by rfl) _ _ (hrunRoot _ rfl (.agg (fA (mP u (invD v)))) rfl V15) _ _ (rootA (mP u (invD v)) (mP_lt _ _) V15) (fun V16 HBx => ?_)
      have KV16 := kTr KV15 HBx
      have ZN := hide (row_keep' ZN.out HBx)
      clear HBx
      refine hK.out _ _ ?_ (fun hHeld => ?_)
      · exact ⟨kLm RU KV16, kLm RV KV16⟩
      clear hK K
      try simp only [zaP, zsT, zsZ, zsS]
      refine wpAnyH_take (i := 5) (oi := oRefPof10) (v := .tuple #[.agg (fA (rootDV (mP u (invD v)))), .bool (rootDB (mP u (invD v)))]) rfl (by kernel_rfl) (by kernel_rfl) (by kernel_rfl) (fun _ _ _ h => h) (Or.inl ⟨by rfl, fun w _ => by go_simp⟩) hHeld ?_
      simp only [zaP, zsT, zsZ, zsS]
      refine wpAnyH_take (i := 6) (oi := oRefPof11) (v := .agg (fA (rootDV (mP u (invD v))))) rfl (by kernel_rfl) (by kernel_rfl) (by kernel_rfl) (fun _ _ _ h => h) (Or.inl ⟨by rfl, fun w _ => by go_simp⟩) hHeld ?_
      simp only [zaP, zsT, zsZ, zsS]
      refine wpAnyH_take (i := 7) (oi := oRefPof12) (v := .bool (rootDB (mP u (invD v)))) rfl (by kernel_rfl) (by kernel_rfl) (by kernel_rfl) (fun _ _ _ h => h) (Or.inl ⟨by rfl, fun w _ => by go_simp⟩) hHeld ?_
      simp only [zaP, zsT, zsZ, zsS]
      refine wpAnyH_ready (rs := [9]) (by kernel_rfl) (by simp) ?_
      refine AllReadyH.cons (o := oRefPof14) rfl (fun K hK => ?_) ?_
      ·
       refine step_store_row _ (by rfl) 95 (.tmp 12) (.tmp 47) (by rfl) (g15) (fA (rootDV (mP u (invD v)))) (by rfl) (by rfl) 95 _ ZN.out (fA_size _) (fA_old _ _) (fA_all _) ?_
       rw [put_none']
       refine hK.out _ _ ?_ (fun hHeld => ?_)
       · exact ⟨range_set (kLm RU KV16) (Nat.ne_of_lt (Nat.lt_of_lt_of_le (lt_row RU.out) GG.out)), range_set (kLm RV KV16) (Nat.ne_of_lt (Nat.lt_of_lt_of_le (lt_row RV.out) GG.out))⟩
       clear hK K
       try simp only [zaP, zsT, zsZ, zsS]
       refine wpAnyH_take (i := 10) (oi := oRefPof15) (v := .bool (rootDB (mP u (invD v)))) rfl (by kernel_rfl) (by kernel_rfl) (by kernel_rfl) (fun _ _ _ h => h) (Or.inl ⟨by rfl, fun w _ => by go_simp⟩) hHeld ?_
       simp only [zaP, zsT, zsZ, zsS]
       refine wpAnyH_done (by kernel_rfl) ?_ _
       go_wp2_with fail
       go_meet
       case rel => exact ⟨g15, rfl, rfl, GG, hide (setRow_heap _ _ _ _ _ _ ZN.out), hide (below_setRow KV16.out GG.out _)⟩
      exact AllReadyH.nil
     exact AllReadyH.nil
    exact AllReadyH.nil
   refine AllReadyH.cons (o := oRefPof13) rfl (fun K hK => ?_) ?_
   ·
    refine step_runTo (w' := V11.alloc (.cells (fA 0) 95)) (by rfl) (.pointer (some ⟨V11.heap.size, 0, none⟩)) (hrunAllocF rfl V11) ?_
    obtain ⟨g17, hg17⟩ : ∃ g, g = V11.heap.size := ⟨_, rfl⟩
    have ZN : Hid ((V11.alloc (.cells (fA 0) 95)).heap[g17]? = some (.cells (fA 0) 95 (0, 0))) := by rw [hg17]; exact heap_alloc_new _ _
    have KV17 := kAl KV11 (.cells (fA 0) 95)
    have GG : Hid (W9.heap.size ≤ g17) := by rw [hg17]; exact KV11.out.size
    rw [← hg17]
    obtain ⟨V17, hV17⟩ : ∃ V, V = V11.alloc (.cells (fA 0) 95) := ⟨_, rfl⟩
    rw [← hV17] at ZN KV17 ⊢
    clear hV17 hg17
    refine hK.out _ _ ?_ (fun hHeld => ?_)
    · exact ⟨kLm RU KV17, kLm RV KV17⟩
    clear hK K
    try simp only [zaP, zsT, zsZ, zsS]
    refine wpAnyH_ready (rs := [3]) (by kernel_rfl) (by simp) ?_
    refine AllReadyH.cons (o := ⟨some 45, .call ⟨.value (.func 63), #[.tmp 42, .tmp 44], #[95, 95]⟩, 95, "point.go:54", #[zeD 0, zeD 2, zeC 2], none⟩) rfl (fun K hK => ?_) ?_
    ·
     refine step_callTo (by rfl) _ _ (hrunMul _ _ rfl (.agg (fA u)) (.agg (fA (invD v))) rfl rfl V17) _ _ (mulA u (invD v) Hu.out (invD_lt _) V17) (fun V18 HBx => ?_)
     have KV18 := kTr KV17 HBx
     have ZN := hide (row_keep' ZN.out HBx)
     clear HBx
     refine hK.out _ _ ?_ (fun hHeld => ?_)
     · exact ⟨kLm RU KV18, kLm RV KV18⟩
     clear hK K
     try simp only [zaP, zsT, zsZ, zsS]
     refine wpAnyH_ready (rs := [4]) (by kernel_rfl) (by simp) ?_
     refine AllReadyH.cons (o := ⟨some 46, .call ⟨.value (.func 111), #[.tmp 45], #[95]⟩, 203, "point.go:54", #[zeD 3, zeC 3], none⟩) rfl (fun K hK => ?_) ?_
     ·
      refine step_callTo (by rfl) _ _ (hrunRoot _ rfl (.agg (fA (mP u (invD v)))) rfl V18) _ _ (rootA (mP u (invD v)) (mP_lt _ _) V18) (fun V19 HBx => ?_)
      have KV19 := kTr KV18 HBx
      have ZN := hide (row_keep' ZN.out HBx)
      clear HBx
      refine hK.out _ _ ?_ (fun hHeld => ?_)
      · exact ⟨kLm RU KV19, kLm RV KV19⟩
      clear hK K
      try simp only [zaP, zsT, zsZ, zsS]
      refine wpAnyH_take (i := 5) (oi := oRefPof10) (v := .tuple #[.agg (fA (rootDV (mP u (invD v)))), .bool (rootDB (mP u (invD v)))]) rfl (by kernel_rfl) (by kernel_rfl) (by kernel_rfl) (fun _ _ _ h => h) (Or.inl ⟨by rfl, fun w _ => by go_simp⟩) hHeld ?_
      simp only [zaP, zsT, zsZ, zsS]
      refine wpAnyH_take (i := 6) (oi := oRefPof11) (v := .agg (fA (rootDV (mP u (invD v))))) rfl (by kernel_rfl) (by kernel_rfl) (by kernel_rfl) (fun _ _ _ h => h) (Or.inl ⟨by rfl, fun w _ => by go_simp⟩) hHeld ?_
      simp only [zaP, zsT, zsZ, zsS]
      refine wpAnyH_take (i := 7) (oi := oRefPof12) (v := .bool (rootDB (mP u (invD v)))) rfl (by kernel_rfl) (by kernel_rfl) (by kernel_rfl) (fun _ _ _ h => h) (Or.inl ⟨by rfl, fun w _ => by go_simp⟩) hHeld ?_
      simp only [zaP, zsT, zsZ, zsS]
      refine wpAnyH_ready (rs := [9]) (by kernel_rfl) (by simp) ?_
      refine AllReadyH.cons (o := oRefPof14) rfl (fun K hK => ?_) ?_
      ·
       refine step_store_row _ (by rfl) 95 (.tmp 12) (.tmp 47) (by rfl) (g17) (fA (rootDV (mP u (invD v)))) (by rfl) (by rfl) 95 _ ZN.out (fA_size _) (fA_old _ _) (fA_all _) ?_
       rw [put_none']
       refine hK.out _ _ ?_ (fun hHeld => ?_)
       · exact ⟨range_set (kLm RU KV19) (Nat.ne_of_lt (Nat.lt_of_lt_of_le (lt_row RU.out) GG.out)), range_set (kLm RV KV19) (Nat.ne_of_lt (Nat.lt_of_lt_of_le (lt_row RV.out) GG.out))⟩
       clear hK K
       try simp only [zaP, zsT, zsZ, zsS]
       refine wpAnyH_take (i := 10) (oi := oRefPof15) (v := .bool (rootDB (mP u (invD v)))) rfl (by kernel_rfl) (by kernel_rfl) (by kernel_rfl) (fun _ _ _ h => h) (Or.inl ⟨by rfl, fun w _ => by go_simp⟩) hHeld ?_
       simp only [zaP, zsT, zsZ, zsS]
       refine wpAnyH_done (by kernel_rfl) ?_ _
       go_wp2_with fail
       go_meet
       case rel => exact ⟨g17, rfl, rfl, GG, hide (setRow_heap _ _ _ _ _ _ ZN.out), hide (below_setRow KV19.out GG.out _)⟩
      exact AllReadyH.nil
     exact AllReadyH.nil
    exact AllReadyH.nil
   exact AllReadyH.nil
  refine AllReadyH.cons (o := oRefPof13) rfl (fun K hK => ?_) ?_
  ·
   refine step_runTo (w' := V10.alloc (.cells (fA 0) 95)) (by rfl) (.pointer (some ⟨V10.heap.size, 0, none⟩)) (hrunAllocF rfl V10) ?_
   obtain ⟨g20, hg20⟩ : ∃ g, g = V10.heap.size := ⟨_, rfl⟩
   have ZN : Hid ((V10.alloc (.cells (fA 0) 95)).heap[g20]? = some (.cells (fA 0) 95 (0, 0))) := by rw [hg20]; exact heap_alloc_new _ _
   have KV20 := kAl KV10 (.cells (fA 0) 95)
   have GG : Hid (W9.heap.size ≤ g20) := by rw [hg20]; exact KV10.out.size
   rw [← hg20]
   obtain ⟨V20, hV20⟩ : ∃ V, V = V10.alloc (.cells (fA 0) 95) := ⟨_, rfl⟩
   rw [← hV20] at ZN KV20 ⊢
   clear hV20 hg20
   refine hK.out _ _ ?_ (fun hHeld => ?_)
   · exact ⟨kLm RU KV20, kLm RV KV20⟩
   clear hK K
   try simp only [zaP, zsT, zsZ, zsS]
   refine wpAnyH_ready (rs := [2]) (by kernel_rfl) (by simp) ?_
   refine AllReadyH.cons (o := ⟨some 44, .call ⟨.value (.func 66), #[.tmp 43], #[95]⟩, 95, "point.go:54", #[zeD 1], none⟩) rfl (fun K hK => ?_) ?_
   ·
    refine step_callTo (by rfl) _ _ (hrunInv _ rfl (.agg (fA v)) rfl V20) _ _ (inverseA v Hv.out V20) (fun V21 HBx => ?_)
    have KV21 := kTr KV20 HBx
    have ZN := hide (row_keep' ZN.out HBx)
    clear HBx
    refine hK.out _ _ ?_ (fun hHeld => ?_)
    · exact ⟨kLm RU KV21, kLm RV KV21⟩
    clear hK K
    try simp only [zaP, zsT, zsZ, zsS]
    refine wpAnyH_ready (rs := [3]) (by kernel_rfl) (by simp) ?_
    refine AllReadyH.cons (o := ⟨some 45, .call ⟨.value (.func 63), #[.tmp 42, .tmp 44], #[95, 95]⟩, 95, "point.go:54", #[zeD 0, zeD 2, zeC 2], none⟩) rfl (fun K hK => ?_) ?_
    ·
     refine step_callTo (by rfl) _ _ (hrunMul _ _ rfl (.agg (fA u)) (.agg (fA (invD v))) rfl rfl V21) _ _ (mulA u (invD v) Hu.out (invD_lt _) V21) (fun V22 HBx => ?_)
     have KV22 := kTr KV21 HBx
     have ZN := hide (row_keep' ZN.out HBx)
     clear HBx
     refine hK.out _ _ ?_ (fun hHeld => ?_)
     · exact ⟨kLm RU KV22, kLm RV KV22⟩
     clear hK K
     try simp only [zaP, zsT, zsZ, zsS]
     refine wpAnyH_ready (rs := [4]) (by kernel_rfl) (by simp) ?_
     refine AllReadyH.cons (o := ⟨some 46, .call ⟨.value (.func 111), #[.tmp 45], #[95]⟩, 203, "point.go:54", #[zeD 3, zeC 3], none⟩) rfl (fun K hK => ?_) ?_
     ·
      refine step_callTo (by rfl) _ _ (hrunRoot _ rfl (.agg (fA (mP u (invD v)))) rfl V22) _ _ (rootA (mP u (invD v)) (mP_lt _ _) V22) (fun V23 HBx => ?_)
      have KV23 := kTr KV22 HBx
      have ZN := hide (row_keep' ZN.out HBx)
      clear HBx
      refine hK.out _ _ ?_ (fun hHeld => ?_)
      · exact ⟨kLm RU KV23, kLm RV KV23⟩
      clear hK K
      try simp only [zaP, zsT, zsZ, zsS]
      refine wpAnyH_take (i := 5) (oi := oRefPof10) (v := .tuple #[.agg (fA (rootDV (mP u (invD v)))), .bool (rootDB (mP u (invD v)))]) rfl (by kernel_rfl) (by kernel_rfl) (by kernel_rfl) (fun _ _ _ h => h) (Or.inl ⟨by rfl, fun w _ => by go_simp⟩) hHeld ?_
      simp only [zaP, zsT, zsZ, zsS]
      refine wpAnyH_take (i := 6) (oi := oRefPof11) (v := .agg (fA (rootDV (mP u (invD v))))) rfl (by kernel_rfl) (by kernel_rfl) (by kernel_rfl) (fun _ _ _ h => h) (Or.inl ⟨by rfl, fun w _ => by go_simp⟩) hHeld ?_
      simp only [zaP, zsT, zsZ, zsS]
      refine wpAnyH_take (i := 7) (oi := oRefPof12) (v := .bool (rootDB (mP u (invD v)))) rfl (by kernel_rfl) (by kernel_rfl) (by kernel_rfl) (fun _ _ _ h => h) (Or.inl ⟨by rfl, fun w _ => by go_simp⟩) hHeld ?_
      simp only [zaP, zsT, zsZ, zsS]
      refine wpAnyH_ready (rs := [9]) (by kernel_rfl) (by simp) ?_
      refine AllReadyH.cons (o := oRefPof14) rfl (fun K hK => ?_) ?_
      ·
       refine step_store_row _ (by rfl) 95 (.tmp 12) (.tmp 47) (by rfl) (g20) (fA (rootDV (mP u (invD v)))) (by rfl) (by rfl) 95 _ ZN.out (fA_size _) (fA_old _ _) (fA_all _) ?_
       rw [put_none']
       refine hK.out _ _ ?_ (fun hHeld => ?_)
       · exact ⟨range_set (kLm RU KV23) (Nat.ne_of_lt (Nat.lt_of_lt_of_le (lt_row RU.out) GG.out)), range_set (kLm RV KV23) (Nat.ne_of_lt (Nat.lt_of_lt_of_le (lt_row RV.out) GG.out))⟩
       clear hK K
       try simp only [zaP, zsT, zsZ, zsS]
       refine wpAnyH_take (i := 10) (oi := oRefPof15) (v := .bool (rootDB (mP u (invD v)))) rfl (by kernel_rfl) (by kernel_rfl) (by kernel_rfl) (fun _ _ _ h => h) (Or.inl ⟨by rfl, fun w _ => by go_simp⟩) hHeld ?_
       simp only [zaP, zsT, zsZ, zsS]
       refine wpAnyH_done (by kernel_rfl) ?_ _
       go_wp2_with fail
       go_meet
       case rel => exact ⟨g20, rfl, rfl, GG, hide (setRow_heap _ _ _ _ _ _ ZN.out), hide (below_setRow KV23.out GG.out _)⟩
      exact AllReadyH.nil
     exact AllReadyH.nil
    exact AllReadyH.nil
   exact AllReadyH.nil
  exact AllReadyH.nil
 case rest =>
 obtain ⟨gx, rfl, rfl, Ggx, RX, Xgx⟩ := hcut
 obtain ⟨W10, hW⟩ : ∃ W, W = wc := ⟨_, rfl⟩
 subst hW
 have lR0gx : w.heap.size < gx := Nat.lt_of_lt_of_le (lt_row R0.out) Ggx.out
 have lRZgx : w.heap.size + 1 < gx := Nat.lt_of_lt_of_le (lt_row RZ.out) Ggx.out
 have lRYgx : gy < gx := Nat.lt_of_lt_of_le (lt_row RY.out) Ggx.out
 have lRYYgx : gyy < gx := Nat.lt_of_lt_of_le (lt_row RYY.out) Ggx.out
 have lRUgx : gu < gx := Nat.lt_of_lt_of_le (lt_row RU.out) Ggx.out
 have lRVgx : gv < gx := Nat.lt_of_lt_of_le (lt_row RV.out) Ggx.out
 have R0 := hide (row_below R0.out Xgx.out (lt_row R0.out))
 have RZ := hide (row_below RZ.out Xgx.out (lt_row RZ.out))
 have RY := hide (row_below RY.out Xgx.out (lt_row RY.out))
 have RYY := hide (row_below RYY.out Xgx.out (lt_row RYY.out))
 have RU := hide (row_below RU.out Xgx.out (lt_row RU.out))
 have RV := hide (row_below RV.out Xgx.out (lt_row RV.out))
 have BL : Hid (Below w.heap.size w W10) := BL.out.trans (Xgx.out.mono BL.out.size)
 clear Xgx Ggx
 have EA : Hid ((mP u (invD v)) = pofA d y) := by show _ = _; unfold pofA; rw [Ev.out, Edy.out, Eu.out, Eyy.out]
 rw [EA.out] at RX
 rw [EA.out]
 obtain ⟨r, Er⟩ : ∃ r, Hid (r = pofR d y) := ⟨_, rfl⟩
 have Hr : Hid (r < P) := by rw [Er.out]; exact rootDV_lt _
 rw [show rootDV (pofA d y) = pofR d y from rfl, ← Er.out] at RX
 obtain ⟨tb, Et⟩ : ∃ b, Hid (b = rootDB (pofA d y)) := ⟨_, rfl⟩
 rw [← Et.out]
 cases tb
 case false =>
  have HB : Hid (pofB d s = false) := by show _ = _; unfold pofB; rw [← Ey.out, ← Et.out]; simp
  go_upto_region 12 with fail
  go_wp2_with (first | (refine wpList_store_row (by rfl) 98 (.tmp 4) (.tmp 60) (by rfl) (w.heap.size + 1) (qA q0) (by rfl) (by rfl) 98 _ RZ.out (qA_size _) (qA_old _ _) (qA_all _) ?_))
  refine bodyPost_ret (v := .tuple #[.agg (qA q0), .bool false]) (results_cell_tmp_row Tryz.results68 _ _ (w.heap.size + 1) 98 (qA q0) (0, 0) _ (by rfl) (setRow_heap _ _ _ _ _ _ RZ.out) Tryz.underlying98 rfl (qA_size _)) rfl ⟨?_, below_setRow BL.out (by omega) _⟩
  unfold pofQ
  rw [HB.out, if_neg (by decide)]
 case true =>
 have EY : Hid (yOf s = y) := by show _ = _; exact of_decide_eq_true Eyb.out.symm
 clear R0 RYY RU RV
 obtain ⟨x0, x1, x2, x3, x4, x5, x6, x7, x8, x9⟩ := c10_of RX.out
 have z0 : 0 ≤ fc r 0 := by unfold fc; rw [fc0]; omega
 have HZm : Hid ((fc r 0).tmod 2 = ((r % 2 : Nat) : Int)) := by show _ = _; rw [Int.tmod_eq_emod_of_nonneg z0]; unfold fc; rw [fc0]; omega
 have hfold := fold10 r
 have heq := eqA r 0 Hr.out P_pos
 cases hod : oddOf s
 case false =>
  rw [hod] at HO
  obtain rfl : ov = 0 := HO.out
  by_cases hr0 : r = 0
  case pos =>
   have hpar : r % 2 = 0 := by rw [hr0]
   have hd : decide (r = 0) = true := decide_eq_true hr0
   rw [hd] at heq
   have hzm : (fc r 0).tmod 2 = 0 := by rw [HZm.out, hpar]; rfl
   have HB : Hid (pofB d s = true) := by show _ = _; unfold pofB; rw [← Ey.out, EY.out, ← Er.out, ← Et.out, H32.out, hod, hd]; simp
   have HX : Hid (pofX d y (oddOf s) = r) := by show _ = _; unfold pofX; rw [← Er.out, hod, hpar]; rfl
   clear hod hr0 hd hpar
   go_upto_region 13 with fail
   go_wp2_with fail
   try rw [put_none']
   refine wp_region_held_drew (S := fun w' => w'.rangeAt (gx) 0 (fL r) ∧ w'.rangeAt (gy) 0 (fL y)) (by kernel_rfl) (by exact ⟨rangeL RX.out, rangeL RY.out⟩) (fun hHeld => ?_)
   obtain ⟨V24, hV24⟩ : ∃ V, V = W10.drew := ⟨_, rfl⟩
   rw [← hV24] at hHeld ⊢
   have KV24 : Hid (Below W10.heap.size W10 V24) := by rw [hV24]; exact (Below.refl _ _).drew
   clear hV24
   refine wpAnyH_take (i := 0) (oi := oRefPof16) (v := .agg (fA r)) rfl (by kernel_rfl) (by kernel_rfl) (by kernel_rfl) (fun _ _ _ h => h) (yldF (by rfl) _ rfl (gx) 0 r rfl (fun w h => h.1)) hHeld ?_
   simp only [zaP, zsT, zsZ, zsS]
   refine wpAnyH_take (i := 1) (oi := oRefPof17) (v := .agg (fA y)) rfl (by kernel_rfl) (by kernel_rfl) (by kernel_rfl) (fun _ _ _ h => h) (yldF (by rfl) _ rfl (gy) 0 y rfl (fun w h => h.2)) hHeld ?_
   simp only [zaP, zsT, zsZ, zsS]
   refine wpAnyH_ready (rs := [2]) (by kernel_rfl) (by simp) ?_
   refine AllReadyH.cons (o := ⟨some 71, .call ⟨.value (.func 65), #[.const (.int .i64 1)], #[3]⟩, 95, "point.go:61", #[], none⟩) rfl (fun K hK => ?_) ?_
   ·
    refine step_callTo (by rfl) _ _ (hrunSmall _ rfl (.int .i64 1) rfl V24) _ _ (smallOne V24) (fun V25 HBx => ?_)
    have KV25 := kTr KV24 HBx
    clear HBx
    refine hK.out _ _ ?_ (fun hHeld => ?_)
    · exact ⟨kLm RX KV25, kLm RY KV25⟩
    clear hK K
    try simp only [zaP, zsT, zsZ, zsS]
    refine wpAnyH_take (i := 3) (oi := oRefPof19) (v := .agg (qA ⟨r, y, 1⟩)) rfl (by kernel_rfl) (by kernel_rfl) (by kernel_rfl) (fun _ _ _ h => h) (yld_build' (by rfl) _ _ rfl _ _ (by kernel_rfl) (builtQ r y 1)) hHeld ?_
    simp only [zaP, zsT, zsZ, zsS]
    refine wpAnyH_ready (rs := [4]) (by kernel_rfl) (by simp) ?_
    refine AllReadyH.cons (o := oRefPof20) rfl (fun K hK => ?_) ?_
    ·
     refine step_store_row _ (by rfl) 98 (.tmp 4) (.tmp 72) (by rfl) (w.heap.size + 1) (qA ⟨r, y, 1⟩) (by rfl) (by rfl) 98 _ (hide (row_below RZ.out KV25.out (lt_row RZ.out))).out (qA_size _) (qA_old _ _) (qA_all _) ?_
     rw [put_none']
     refine hK.out _ _ ?_ (fun hHeld => ?_)
     · exact ⟨range_set (kLm RX KV25) (by omega), range_set (kLm RY KV25) (by omega)⟩
     clear hK K
     try simp only [zaP, zsT, zsZ, zsS]
     refine wpAnyH_take (i := 5) (oi := oRefPof21) (v := .bool true) rfl (by kernel_rfl) (by kernel_rfl) (by kernel_rfl) (fun _ _ _ h => h) (Or.inl ⟨by rfl, fun w _ => by go_simp⟩) hHeld ?_
     simp only [zaP, zsT, zsZ, zsS]
     refine wpAnyH_done (by kernel_rfl) ?_ _
     go_wp2_with fail
     have RZ9 := hide (row_below RZ.out KV25.out (lt_row RZ.out))
     have BL9 := hide (BL.out.trans (KV25.out.mono BL.out.size))
     refine bodyPost_ret (v := .tuple #[.agg (qA ⟨r, y, 1⟩), .bool true]) (results_cell_tmp_row Tryz.results68 _ _ (w.heap.size + 1) 98 (qA ⟨r, y, 1⟩) (0, 0) _ (by rfl) (setRow_heap _ _ _ _ _ _ RZ9.out) Tryz.underlying98 rfl (qA_size _)) rfl ⟨?_, below_setRow BL9.out (by omega) _⟩
     unfold pofQ; rw [HB.out, if_pos rfl, ← Ey.out, HX.out]
    exact AllReadyH.nil
   exact AllReadyH.nil
  case neg =>
   by_cases hpar : r % 2 = 1
   case pos =>
    have hd : decide (r = 0) = false := decide_eq_false hr0
    rw [hd] at heq
    have hzm : (fc r 0).tmod 2 = 1 := by rw [HZm.out, hpar]; rfl
    have HB : Hid (pofB d s = true) := by show _ = _; unfold pofB; rw [← Ey.out, EY.out, ← Er.out, ← Et.out, H32.out, hod, hd]; simp
    have HX : Hid (pofX d y (oddOf s) = sP 0 r) := by show _ = _; unfold pofX; rw [← Er.out, hod, hpar]; rfl
    clear hod hr0 hd hpar
    go_upto_region 13 with fail
    go_upto_region 14 with fail
    clear heq hfold hzm z0 HZm x0 x1 x2 x3 x4 x5 x6 x7 x8 x9
    go_wp2_with (first | (refine wpList_load_row (by rfl) 95 (.tmp 12) (by rfl) (gx) (by rfl) 95 (fA r) (0, 0) _ RX.out underF rfl (fA_size _) ?_))
    refine (subA' 0 r P_pos Hr.out _).mono ?_
    rintro e W11 ⟨rfl, hB11⟩
    have RZ := hide (row_keep' RZ.out hB11)
    have RY := hide (row_keep' RY.out hB11)
    have RX := hide (row_keep' RX.out hB11)
    have BL := kTr BL hB11
    clear hB11
    obtain ⟨x, Ex⟩ : ∃ x, Hid (x = sP 0 r) := ⟨_, rfl⟩
    have Hx : Hid (x < P) := by rw [Ex.out]; exact sP_lt _ _
    rw [← Ex.out]
    go_wp2_with (first | (refine wpList_store_row (by rfl) 95 (.tmp 12) (.tmp 68) (by rfl) (gx) (fA x) (by rfl) (by rfl) 95 _ RX.out (fA_size _) (fA_old _ _) (fA_all _) ?_))
    obtain ⟨W12, hW12⟩ : ∃ W, W = W11.setRow (gx) (fA x) := ⟨_, rfl⟩
    have RZ' : Hid (W12.heap[w.heap.size + 1]? = some (.cells (qA q0) 98 (0, 0))) := by rw [hW12]; exact (setRow_other _ _ _ _ (by omega)).trans RZ.out
    have RY' : Hid (W12.heap[gy]? = some (.cells (fA y) 95 (0, 0))) := by rw [hW12]; exact (setRow_other _ _ _ _ (by omega)).trans RY.out
    have RX' : Hid (W12.heap[gx]? = some (.cells (fA x) 95 (0, 0))) := by rw [hW12]; exact setRow_heap _ _ _ _ _ _ RX.out
    have BL' : Hid (Below w.heap.size w W12) := by rw [hW12]; exact below_setRow BL.out (by omega) _
    rw [put_none', ← hW12]
    clear hW12 BL RZ RY RX
    have RZ := RZ'
    have RY := RY'
    have RX := RX'
    have BL := BL'
    clear RZ' RY' RX' BL'
    try rw [put_none']
    refine wp_region_held_drew (S := fun w' => w'.rangeAt (gx) 0 (fL x) ∧ w'.rangeAt (gy) 0 (fL y)) (by kernel_rfl) (by exact ⟨rangeL RX.out, rangeL RY.out⟩) (fun hHeld => ?_)
    obtain ⟨V26, hV26⟩ : ∃ V, V = W12.drew := ⟨_, rfl⟩
    rw [← hV26] at hHeld ⊢
    have KV26 : Hid (Below W12.heap.size W12 V26) := by rw [hV26]; exact (Below.refl _ _).drew
    clear hV26
    refine wpAnyH_take (i := 0) (oi := oRefPof16) (v := .agg (fA x)) rfl (by kernel_rfl) (by kernel_rfl) (by kernel_rfl) (fun _ _ _ h => h) (yldF (by rfl) _ rfl (gx) 0 x rfl (fun w h => h.1)) hHeld ?_
    simp only [zaP, zsT, zsZ, zsS]
    refine wpAnyH_take (i := 1) (oi := oRefPof17) (v := .agg (fA y)) rfl (by kernel_rfl) (by kernel_rfl) (by kernel_rfl) (fun _ _ _ h => h) (yldF (by rfl) _ rfl (gy) 0 y rfl (fun w h => h.2)) hHeld ?_
    simp only [zaP, zsT, zsZ, zsS]
    refine wpAnyH_ready (rs := [2]) (by kernel_rfl) (by simp) ?_
    refine AllReadyH.cons (o := ⟨some 71, .call ⟨.value (.func 65), #[.const (.int .i64 1)], #[3]⟩, 95, "point.go:61", #[], none⟩) rfl (fun K hK => ?_) ?_
    ·
     refine step_callTo (by rfl) _ _ (hrunSmall _ rfl (.int .i64 1) rfl V26) _ _ (smallOne V26) (fun V27 HBx => ?_)
     have KV27 := kTr KV26 HBx
     clear HBx
     refine hK.out _ _ ?_ (fun hHeld => ?_)
     · exact ⟨kLm RX KV27, kLm RY KV27⟩
     clear hK K
     try simp only [zaP, zsT, zsZ, zsS]
     refine wpAnyH_take (i := 3) (oi := oRefPof19) (v := .agg (qA ⟨x, y, 1⟩)) rfl (by kernel_rfl) (by kernel_rfl) (by kernel_rfl) (fun _ _ _ h => h) (yld_build' (by rfl) _ _ rfl _ _ (by kernel_rfl) (builtQ x y 1)) hHeld ?_
     simp only [zaP, zsT, zsZ, zsS]
     refine wpAnyH_ready (rs := [4]) (by kernel_rfl) (by simp) ?_
     refine AllReadyH.cons (o := oRefPof20) rfl (fun K hK => ?_) ?_
     ·
      refine step_store_row _ (by rfl) 98 (.tmp 4) (.tmp 72) (by rfl) (w.heap.size + 1) (qA ⟨x, y, 1⟩) (by rfl) (by rfl) 98 _ (hide (row_below RZ.out KV27.out (lt_row RZ.out))).out (qA_size _) (qA_old _ _) (qA_all _) ?_
      rw [put_none']
      refine hK.out _ _ ?_ (fun hHeld => ?_)
      · exact ⟨range_set (kLm RX KV27) (by omega), range_set (kLm RY KV27) (by omega)⟩
      clear hK K
      try simp only [zaP, zsT, zsZ, zsS]
      refine wpAnyH_take (i := 5) (oi := oRefPof21) (v := .bool true) rfl (by kernel_rfl) (by kernel_rfl) (by kernel_rfl) (fun _ _ _ h => h) (Or.inl ⟨by rfl, fun w _ => by go_simp⟩) hHeld ?_
      simp only [zaP, zsT, zsZ, zsS]
      refine wpAnyH_done (by kernel_rfl) ?_ _
      go_wp2_with fail
      have RZ9 := hide (row_below RZ.out KV27.out (lt_row RZ.out))
      have BL9 := hide (BL.out.trans (KV27.out.mono BL.out.size))
      refine bodyPost_ret (v := .tuple #[.agg (qA ⟨x, y, 1⟩), .bool true]) (results_cell_tmp_row Tryz.results68 _ _ (w.heap.size + 1) 98 (qA ⟨x, y, 1⟩) (0, 0) _ (by rfl) (setRow_heap _ _ _ _ _ _ RZ9.out) Tryz.underlying98 rfl (qA_size _)) rfl ⟨?_, below_setRow BL9.out (by omega) _⟩
      unfold pofQ; rw [HB.out, if_pos rfl, ← Ey.out, HX.out, Ex.out]
     exact AllReadyH.nil
    exact AllReadyH.nil
   case neg =>
    have hpar : r % 2 = 0 := by omega
    have hd : decide (r = 0) = false := decide_eq_false hr0
    rw [hd] at heq
    have hzm : (fc r 0).tmod 2 = 0 := by rw [HZm.out, hpar]; rfl
    have HB : Hid (pofB d s = true) := by show _ = _; unfold pofB; rw [← Ey.out, EY.out, ← Er.out, ← Et.out, H32.out, hod, hd]; simp
    have HX : Hid (pofX d y (oddOf s) = r) := by show _ = _; unfold pofX; rw [← Er.out, hod, hpar]; rfl
    clear hod hr0 hd hpar
    go_upto_region 13 with fail
    go_wp2_with fail
    try rw [put_none']
    refine wp_region_held_drew (S := fun w' => w'.rangeAt (gx) 0 (fL r) ∧ w'.rangeAt (gy) 0 (fL y)) (by kernel_rfl) (by exact ⟨rangeL RX.out, rangeL RY.out⟩) (fun hHeld => ?_)
    obtain ⟨V28, hV28⟩ : ∃ V, V = W10.drew := ⟨_, rfl⟩
    rw [← hV28] at hHeld ⊢
    have KV28 : Hid (Below W10.heap.size W10 V28) := by rw [hV28]; exact (Below.refl _ _).drew
    clear hV28
    refine wpAnyH_take (i := 0) (oi := oRefPof16) (v := .agg (fA r)) rfl (by kernel_rfl) (by kernel_rfl) (by kernel_rfl) (fun _ _ _ h => h) (yldF (by rfl) _ rfl (gx) 0 r rfl (fun w h => h.1)) hHeld ?_
    simp only [zaP, zsT, zsZ, zsS]
    refine wpAnyH_take (i := 1) (oi := oRefPof17) (v := .agg (fA y)) rfl (by kernel_rfl) (by kernel_rfl) (by kernel_rfl) (fun _ _ _ h => h) (yldF (by rfl) _ rfl (gy) 0 y rfl (fun w h => h.2)) hHeld ?_
    simp only [zaP, zsT, zsZ, zsS]
    refine wpAnyH_ready (rs := [2]) (by kernel_rfl) (by simp) ?_
    refine AllReadyH.cons (o := ⟨some 71, .call ⟨.value (.func 65), #[.const (.int .i64 1)], #[3]⟩, 95, "point.go:61", #[], none⟩) rfl (fun K hK => ?_) ?_
    ·
     refine step_callTo (by rfl) _ _ (hrunSmall _ rfl (.int .i64 1) rfl V28) _ _ (smallOne V28) (fun V29 HBx => ?_)
     have KV29 := kTr KV28 HBx
     clear HBx
     refine hK.out _ _ ?_ (fun hHeld => ?_)
     · exact ⟨kLm RX KV29, kLm RY KV29⟩
     clear hK K
     try simp only [zaP, zsT, zsZ, zsS]
     refine wpAnyH_take (i := 3) (oi := oRefPof19) (v := .agg (qA ⟨r, y, 1⟩)) rfl (by kernel_rfl) (by kernel_rfl) (by kernel_rfl) (fun _ _ _ h => h) (yld_build' (by rfl) _ _ rfl _ _ (by kernel_rfl) (builtQ r y 1)) hHeld ?_
     simp only [zaP, zsT, zsZ, zsS]
     refine wpAnyH_ready (rs := [4]) (by kernel_rfl) (by simp) ?_
     refine AllReadyH.cons (o := oRefPof20) rfl (fun K hK => ?_) ?_
     ·
      refine step_store_row _ (by rfl) 98 (.tmp 4) (.tmp 72) (by rfl) (w.heap.size + 1) (qA ⟨r, y, 1⟩) (by rfl) (by rfl) 98 _ (hide (row_below RZ.out KV29.out (lt_row RZ.out))).out (qA_size _) (qA_old _ _) (qA_all _) ?_
      rw [put_none']
      refine hK.out _ _ ?_ (fun hHeld => ?_)
      · exact ⟨range_set (kLm RX KV29) (by omega), range_set (kLm RY KV29) (by omega)⟩
      clear hK K
      try simp only [zaP, zsT, zsZ, zsS]
      refine wpAnyH_take (i := 5) (oi := oRefPof21) (v := .bool true) rfl (by kernel_rfl) (by kernel_rfl) (by kernel_rfl) (fun _ _ _ h => h) (Or.inl ⟨by rfl, fun w _ => by go_simp⟩) hHeld ?_
      simp only [zaP, zsT, zsZ, zsS]
      refine wpAnyH_done (by kernel_rfl) ?_ _
      go_wp2_with fail
      have RZ9 := hide (row_below RZ.out KV29.out (lt_row RZ.out))
      have BL9 := hide (BL.out.trans (KV29.out.mono BL.out.size))
      refine bodyPost_ret (v := .tuple #[.agg (qA ⟨r, y, 1⟩), .bool true]) (results_cell_tmp_row Tryz.results68 _ _ (w.heap.size + 1) 98 (qA ⟨r, y, 1⟩) (0, 0) _ (by rfl) (setRow_heap _ _ _ _ _ _ RZ9.out) Tryz.underlying98 rfl (qA_size _)) rfl ⟨?_, below_setRow BL9.out (by omega) _⟩
      unfold pofQ; rw [HB.out, if_pos rfl, ← Ey.out, HX.out]
     exact AllReadyH.nil
    exact AllReadyH.nil
 case true =>
  rw [hod] at HO
  obtain rfl : ov = 1 := HO.out
  by_cases hr0 : r = 0
  case pos =>
   have hd : decide (r = 0) = true := decide_eq_true hr0
   rw [hd] at heq
   have HB : Hid (pofB d s = false) := by show _ = _; unfold pofB; rw [← Ey.out, ← Er.out, hod, hr0]; simp
   clear hod hr0 hd
   go_upto_region 12 with fail
   go_wp2_with (first | (refine wpList_store_row (by rfl) 98 (.tmp 4) (.tmp 60) (by rfl) (w.heap.size + 1) (qA q0) (by rfl) (by rfl) 98 _ RZ.out (qA_size _) (qA_old _ _) (qA_all _) ?_))
   refine bodyPost_ret (v := .tuple #[.agg (qA q0), .bool false]) (results_cell_tmp_row Tryz.results68 _ _ (w.heap.size + 1) 98 (qA q0) (0, 0) _ (by rfl) (setRow_heap _ _ _ _ _ _ RZ.out) Tryz.underlying98 rfl (qA_size _)) rfl ⟨?_, below_setRow BL.out (by omega) _⟩
   unfold pofQ
   rw [HB.out, if_neg (by decide)]
  case neg =>
   by_cases hpar : r % 2 = 1
   case pos =>
    have hd : decide (r = 0) = false := decide_eq_false hr0
    rw [hd] at heq
    have hzm : (fc r 0).tmod 2 = 1 := by rw [HZm.out, hpar]; rfl
    have HB : Hid (pofB d s = true) := by show _ = _; unfold pofB; rw [← Ey.out, EY.out, ← Er.out, ← Et.out, H32.out, hod, hd]; simp
    have HX : Hid (pofX d y (oddOf s) = r) := by show _ = _; unfold pofX; rw [← Er.out, hod, hpar]; rfl
    clear hod hr0 hd hpar
    go_upto_region 13 with fail
    go_wp2_with fail
    try rw [put_none']
    refine wp_region_held_drew (S := fun w' => w'.rangeAt (gx) 0 (fL r) ∧ w'.rangeAt (gy) 0 (fL y)) (by kernel_rfl) (by exact ⟨rangeL RX.out, rangeL RY.out⟩) (fun hHeld => ?_)
    obtain ⟨V30, hV30⟩ : ∃ V, V = W10.drew := ⟨_, rfl⟩
    rw [← hV30] at hHeld ⊢
    have KV30 : Hid (Below W10.heap.size W10 V30) := by rw [hV30]; exact (Below.refl _ _).drew
    clear hV30
    refine wpAnyH_take (i := 0) (oi := oRefPof16) (v := .agg (fA r)) rfl (by kernel_rfl) (by kernel_rfl) (by kernel_rfl) (fun _ _ _ h => h) (yldF (by rfl) _ rfl (gx) 0 r rfl (fun w h => h.1)) hHeld ?_
    simp only [zaP, zsT, zsZ, zsS]
    refine wpAnyH_take (i := 1) (oi := oRefPof17) (v := .agg (fA y)) rfl (by kernel_rfl) (by kernel_rfl) (by kernel_rfl) (fun _ _ _ h => h) (yldF (by rfl) _ rfl (gy) 0 y rfl (fun w h => h.2)) hHeld ?_
    simp only [zaP, zsT, zsZ, zsS]
    refine wpAnyH_ready (rs := [2]) (by kernel_rfl) (by simp) ?_
    refine AllReadyH.cons (o := ⟨some 71, .call ⟨.value (.func 65), #[.const (.int .i64 1)], #[3]⟩, 95, "point.go:61", #[], none⟩) rfl (fun K hK => ?_) ?_
    ·
     refine step_callTo (by rfl) _ _ (hrunSmall _ rfl (.int .i64 1) rfl V30) _ _ (smallOne V30) (fun V31 HBx => ?_)
     have KV31 := kTr KV30 HBx
     clear HBx
     refine hK.out _ _ ?_ (fun hHeld => ?_)
     · exact ⟨kLm RX KV31, kLm RY KV31⟩
     clear hK K
     try simp only [zaP, zsT, zsZ, zsS]
     refine wpAnyH_take (i := 3) (oi := oRefPof19) (v := .agg (qA ⟨r, y, 1⟩)) rfl (by kernel_rfl) (by kernel_rfl) (by kernel_rfl) (fun _ _ _ h => h) (yld_build' (by rfl) _ _ rfl _ _ (by kernel_rfl) (builtQ r y 1)) hHeld ?_
     simp only [zaP, zsT, zsZ, zsS]
     refine wpAnyH_ready (rs := [4]) (by kernel_rfl) (by simp) ?_
     refine AllReadyH.cons (o := oRefPof20) rfl (fun K hK => ?_) ?_
     ·
      refine step_store_row _ (by rfl) 98 (.tmp 4) (.tmp 72) (by rfl) (w.heap.size + 1) (qA ⟨r, y, 1⟩) (by rfl) (by rfl) 98 _ (hide (row_below RZ.out KV31.out (lt_row RZ.out))).out (qA_size _) (qA_old _ _) (qA_all _) ?_
      rw [put_none']
      refine hK.out _ _ ?_ (fun hHeld => ?_)
      · exact ⟨range_set (kLm RX KV31) (by omega), range_set (kLm RY KV31) (by omega)⟩
      clear hK K
      try simp only [zaP, zsT, zsZ, zsS]
      refine wpAnyH_take (i := 5) (oi := oRefPof21) (v := .bool true) rfl (by kernel_rfl) (by kernel_rfl) (by kernel_rfl) (fun _ _ _ h => h) (Or.inl ⟨by rfl, fun w _ => by go_simp⟩) hHeld ?_
      simp only [zaP, zsT, zsZ, zsS]
      refine wpAnyH_done (by kernel_rfl) ?_ _
      go_wp2_with fail
      have RZ9 := hide (row_below RZ.out KV31.out (lt_row RZ.out))
      have BL9 := hide (BL.out.trans (KV31.out.mono BL.out.size))
      refine bodyPost_ret (v := .tuple #[.agg (qA ⟨r, y, 1⟩), .bool true]) (results_cell_tmp_row Tryz.results68 _ _ (w.heap.size + 1) 98 (qA ⟨r, y, 1⟩) (0, 0) _ (by rfl) (setRow_heap _ _ _ _ _ _ RZ9.out) Tryz.underlying98 rfl (qA_size _)) rfl ⟨?_, below_setRow BL9.out (by omega) _⟩
      unfold pofQ; rw [HB.out, if_pos rfl, ← Ey.out, HX.out]
     exact AllReadyH.nil
    exact AllReadyH.nil
   case neg =>
    have hpar : r % 2 = 0 := by omega
    have hd : decide (r = 0) = false := decide_eq_false hr0
    rw [hd] at heq
    have hzm : (fc r 0).tmod 2 = 0 := by rw [HZm.out, hpar]; rfl
    have HB : Hid (pofB d s = true) := by show _ = _; unfold pofB; rw [← Ey.out, EY.out, ← Er.out, ← Et.out, H32.out, hod, hd]; simp
    have HX : Hid (pofX d y (oddOf s) = sP 0 r) := by show _ = _; unfold pofX; rw [← Er.out, hod, hpar]; rfl
    clear hod hr0 hd hpar
    go_upto_region 13 with fail
    go_upto_region 14 with fail
    clear heq hfold hzm z0 HZm x0 x1 x2 x3 x4 x5 x6 x7 x8 x9
    go_wp2_with (first | (refine wpList_load_row (by rfl) 95 (.tmp 12) (by rfl) (gx) (by rfl) 95 (fA r) (0, 0) _ RX.out underF rfl (fA_size _) ?_))
    refine (subA' 0 r P_pos Hr.out _).mono ?_
    rintro e W11 ⟨rfl, hB11⟩
    have RZ := hide (row_keep' RZ.out hB11)
    have RY := hide (row_keep' RY.out hB11)
    have RX := hide (row_keep' RX.out hB11)
    have BL := kTr BL hB11
    clear hB11
    obtain ⟨x, Ex⟩ : ∃ x, Hid (x = sP 0 r) := ⟨_, rfl⟩
    have Hx : Hid (x < P) := by rw [Ex.out]; exact sP_lt _ _
    rw [← Ex.out]
    go_wp2_with (first | (refine wpList_store_row (by rfl) 95 (.tmp 12) (.tmp 68) (by rfl) (gx) (fA x) (by rfl) (by rfl) 95 _ RX.out (fA_size _) (fA_old _ _) (fA_all _) ?_))
    obtain ⟨W12, hW12⟩ : ∃ W, W = W11.setRow (gx) (fA x) := ⟨_, rfl⟩
    have RZ' : Hid (W12.heap[w.heap.size + 1]? = some (.cells (qA q0) 98 (0, 0))) := by rw [hW12]; exact (setRow_other _ _ _ _ (by omega)).trans RZ.out
    have RY' : Hid (W12.heap[gy]? = some (.cells (fA y) 95 (0, 0))) := by rw [hW12]; exact (setRow_other _ _ _ _ (by omega)).trans RY.out
    have RX' : Hid (W12.heap[gx]? = some (.cells (fA x) 95 (0, 0))) := by rw [hW12]; exact setRow_heap _ _ _ _ _ _ RX.out
    have BL' : Hid (Below w.heap.size w W12) := by rw [hW12]; exact below_setRow BL.out (by omega) _
    rw [put_none', ← hW12]
    clear hW12 BL RZ RY RX
    have RZ := RZ'
    have RY := RY'
    have RX := RX'
    have BL := BL'
    clear RZ' RY' RX' BL'
    try rw [put_none']
    refine wp_region_held_drew (S := fun w' => w'.rangeAt (gx) 0 (fL x) ∧ w'.rangeAt (gy) 0 (fL y)) (by kernel_rfl) (by exact ⟨rangeL RX.out, rangeL RY.out⟩) (fun hHeld => ?_)
    obtain ⟨V32, hV32⟩ : ∃ V, V = W12.drew := ⟨_, rfl⟩
    rw [← hV32] at hHeld ⊢
    have KV32 : Hid (Below W12.heap.size W12 V32) := by rw [hV32]; exact (Below.refl _ _).drew
    clear hV32
    refine wpAnyH_take (i := 0) (oi := oRefPof16) (v := .agg (fA x)) rfl (by kernel_rfl) (by kernel_rfl) (by kernel_rfl) (fun _ _ _ h => h) (yldF (by rfl) _ rfl (gx) 0 x rfl (fun w h => h.1)) hHeld ?_
    simp only [zaP, zsT, zsZ, zsS]
    refine wpAnyH_take (i := 1) (oi := oRefPof17) (v := .agg (fA y)) rfl (by kernel_rfl) (by kernel_rfl) (by kernel_rfl) (fun _ _ _ h => h) (yldF (by rfl) _ rfl (gy) 0 y rfl (fun w h => h.2)) hHeld ?_
    simp only [zaP, zsT, zsZ, zsS]
    refine wpAnyH_ready (rs := [2]) (by kernel_rfl) (by simp) ?_
    refine AllReadyH.cons (o := ⟨some 71, .call ⟨.value (.func 65), #[.const (.int .i64 1)], #[3]⟩, 95, "point.go:61", #[], none⟩) rfl (fun K hK => ?_) ?_
    ·
     refine step_callTo (by rfl) _ _ (hrunSmall _ rfl (.int .i64 1) rfl V32) _ _ (smallOne V32) (fun V33 HBx => ?_)
     have KV33 := kTr KV32 HBx
     clear HBx
     refine hK.out _ _ ?_ (fun hHeld => ?_)
     · exact ⟨kLm RX KV33, kLm RY KV33⟩
     clear hK K
     try simp only [zaP, zsT, zsZ, zsS]
     refine wpAnyH_take (i := 3) (oi := oRefPof19) (v := .agg (qA ⟨x, y, 1⟩)) rfl (by kernel_rfl) (by kernel_rfl) (by kernel_rfl) (fun _ _ _ h => h) (yld_build' (by rfl) _ _ rfl _ _ (by kernel_rfl) (builtQ x y 1)) hHeld ?_
     simp only [zaP, zsT, zsZ, zsS]
     refine wpAnyH_ready (rs := [4]) (by kernel_rfl) (by simp) ?_
     refine AllReadyH.cons (o := oRefPof20) rfl (fun K hK => ?_) ?_
     ·
      refine step_store_row _ (by rfl) 98 (.tmp 4) (.tmp 72) (by rfl) (w.heap.size + 1) (qA ⟨x, y, 1⟩) (by rfl) (by rfl) 98 _ (hide (row_below RZ.out KV33.out (lt_row RZ.out))).out (qA_size _) (qA_old _ _) (qA_all _) ?_
      rw [put_none']
      refine hK.out _ _ ?_ (fun hHeld => ?_)
      · exact ⟨range_set (kLm RX KV33) (by omega), range_set (kLm RY KV33) (by omega)⟩
      clear hK K
      try simp only [zaP, zsT, zsZ, zsS]
      refine wpAnyH_take (i := 5) (oi := oRefPof21) (v := .bool true) rfl (by kernel_rfl) (by kernel_rfl) (by kernel_rfl) (fun _ _ _ h => h) (Or.inl ⟨by rfl, fun w _ => by go_simp⟩) hHeld ?_
      simp only [zaP, zsT, zsZ, zsS]
      refine wpAnyH_done (by kernel_rfl) ?_ _
      go_wp2_with fail
      have RZ9 := hide (row_below RZ.out KV33.out (lt_row RZ.out))
      have BL9 := hide (BL.out.trans (KV33.out.mono BL.out.size))
      refine bodyPost_ret (v := .tuple #[.agg (qA ⟨x, y, 1⟩), .bool true]) (results_cell_tmp_row Tryz.results68 _ _ (w.heap.size + 1) 98 (qA ⟨x, y, 1⟩) (0, 0) _ (by rfl) (setRow_heap _ _ _ _ _ _ RZ9.out) Tryz.underlying98 rfl (qA_size _)) rfl ⟨?_, below_setRow BL9.out (by omega) _⟩
      unfold pofQ; rw [HB.out, if_pos rfl, ← Ey.out, HX.out, Ex.out]
     exact AllReadyH.nil
    exact AllReadyH.nil
end
end Go.Proofs.YtccgfabojbjmjaaGreatDoor
