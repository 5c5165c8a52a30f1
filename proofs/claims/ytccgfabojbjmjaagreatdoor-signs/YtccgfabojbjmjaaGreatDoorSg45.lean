import Derived.Test.YtccgfabojbjmjaaGreatDoorSg44
namespace Go.Proofs.YtccgfabojbjmjaaGreatDoor
open Go.RowKit
theorem qbY (l : List UInt8) : (qaL l).size = l.length := by unfold qaL; rfl
theorem sRow_16 (l : List UInt8) : (sRow l 16).getD 16 0 = 0 := by
 unfold sRow
 simp [zr, List.getD]
theorem sRow_eq (D : List Int) (l : List UInt8) (hD : D.length = 17) (h : ∀ i, i < 16 → D.getD i 0 = wI l i) (h16 : D.getD 16 0 = 0) : D = sRow l 16 := by
 refine List.ext_getElem (by rw [hD, qca]) (fun i h1 h2 => ?_)
 have e : ∀ (L : List Int) (h : i < L.length), L[i] = L.getD i 0 := fun L h => by simp [List.getD, h]
 rw [e D h1, e _ h2]
 by_cases c : i < 16
 · rw [h i c, sRow_get l 16 i c (by omega)]
 ·
  have : i = 16 := by omega
  subst this
  rw [h16, sRow_16]
theorem wI_le (n i : Nat) (hi : i < 16) : wI (leB n 32) i = ((n / 65536 ^ i % 65536 : Nat) : Int) := by
 unfold wI
 have g : ∀ j, j < 32 → (leB n 32).getD j 0 = qbe n j := fun j hj => leB_getD n 32 j hj
 rw [g _ (by omega), g _ (by omega)]
 unfold C8
 rw [qaX, qaX]
 have e1 : 65536 ^ i = 256 ^ (2 * i) := by rw [Nat.pow_mul]
 have e2 : n / 256 ^ (2 * i + 1) = n / 256 ^ (2 * i) / 256 := by rw [Nat.pow_succ, Nat.div_div_eq_div_mul]
 rw [e1, e2]
 omega
theorem sA_dB (n : Nat) (hn : n < 115792089237316195423570985008687907853269984665640564039457584007913129639936) : sA (leB n 32) = ((dB 65536 17 (n : Int)).map iv).toArray := by
 rw [sA_def, ← sRow_eq (dB 65536 17 (n : Int)) (leB n 32) (qaT _ _ _)]
 ·
  intro i hi
  rw [dB_getR 65536 (by decide) 17 i _ (by omega), wI_le n i hi]
  rw [show ((65536 : Int) ^ i) = ((65536 ^ i : Nat) : Int) by simp]
  omega
 ·
  rw [dB_getR 65536 (by decide) 17 16 _ (by omega)]
  have e : (n : Int) / 65536 ^ 16 = 0 := by
   have : (65536 : Int) ^ 16 = 115792089237316195423570985008687907853269984665640564039457584007913129639936 := by decide
   rw [this]; omega
  rw [e]; rfl
theorem red_sA (H : List UInt8) : ((redAt (qaL H) 0).map iv).toArray = sA (leB (qaC H % qcB) 32) := by
 rw [sA_dB _ (Nat.lt_trans (Nat.mod_lt _ (by decide)) (by decide))]
 unfold redAt
 rw [qa6, Nat.pow_zero, Nat.div_one]
 rfl
theorem sdL_get (l : List UInt8) (h : l.length = 32) (j : Nat) (hj : j < 32) : (sdL l).getD j 0 = if j = 31 then sd31 (l.getD 31 0) else if j = 0 then sd0 (l.getD 0 0) else l.getD j 0 := by
 unfold sdL
 simp only [List.getD_eq_getElem?_getD, List.getElem?_set, List.length_set, h]
 by_cases c : j = 31
 · subst c; simp
 ·
  by_cases d : j = 0
  · subst d; simp
  · rw [if_neg (fun e => c e.symm), if_neg (fun e => d e.symm), if_neg c, if_neg d]
theorem wI_sd (l : List UInt8) (h : l.length = 32) (i : Nat) (hi : i < 16) : wI (sdL l) i = if i = 0 then wI l 0 - wI l 0 % 8 else if i = 15 then wI l 15 % 16384 + 16384 else wI l i := by
 unfold wI
 rw [sdL_get l h _ (by omega), sdL_get l h _ (by omega)]
 by_cases c : i = 0
 ·
  subst c
  rw [if_neg (by decide), if_pos rfl, if_neg (by decide), if_neg (by decide), if_pos rfl]
  unfold C8 sd0
  have := UInt8.toNat_lt (l.getD 0 0)
  rw [UInt8.toNat_ofNat']
  simp only [Nat.mul_zero, Nat.zero_add]
  omega
 ·
  by_cases d : i = 15
  ·
   subst d
   rw [if_neg (by decide), if_neg (by decide), if_pos (by decide), if_neg (by decide), if_pos rfl]
   unfold C8 sd31
   have := UInt8.toNat_lt (l.getD 31 0)
   have := UInt8.toNat_lt (l.getD 30 0)
   rw [UInt8.toNat_ofNat']
   show ((l.getD 30 0).toNat : Int) + _ = (((l.getD 30 0).toNat : Int) + 256 * ((l.getD 31 0).toNat : Int)) % 16384 + 16384
   omega
  · rw [if_neg (by omega), if_neg (by omega), if_neg (by omega), if_neg (by omega), if_neg c, if_neg d]
theorem wI_take (l : List UInt8) (i : Nat) (hi : i < 16) (_h : 32 ≤ l.length) : wI (l.take 32) i = wI l i := by
 unfold wI
 have g : ∀ j, j < 32 → (l.take 32).getD j 0 = l.getD j 0 := by
  intro j hj
  simp [List.getD_eq_getElem?_getD, hj]
 rw [g _ (by omega), g _ (by omega)]
theorem sd_row (l : List UInt8) (h : 32 ≤ l.length) (X Y : Int) (hX : X = wI l 0 - wI l 0 % 8) (hY : Y = wI l 15 % 16384 + 16384) : ((sRow l 16).set 0 X).set 15 Y = sRow (sdL (l.take 32)) 16 := by
 have h32 : (l.take 32).length = 32 := by rw [List.length_take]; omega
 refine sRow_eq _ _ (by rw [List.length_set, List.length_set, qca]) ?_ ?_
 ·
  intro i hi
  rw [wI_sd _ h32 i hi, wI_take l 0 (by decide) h, wI_take l 15 (by decide) h, wI_take l i hi h]
  simp only [List.getD_eq_getElem?_getD, List.getElem?_set, List.length_set, qca]
  have g := sRow_get l 16 i hi (by omega)
  rw [List.getD_eq_getElem?_getD] at g
  by_cases c : i = 15
  · subst c; simp [hY]
  ·
   by_cases d : i = 0
   · subst d; simp [hX]
   · rw [if_neg (fun e => c e.symm), if_neg (fun e => d e.symm), if_neg d, if_neg c, g]
 ·
  simp only [List.getD_eq_getElem?_getD, List.getElem?_set, List.length_set, qca]
  have g := sRow_16 l
  rw [List.getD_eq_getElem?_getD] at g
  simp only [if_neg (show ¬ (15 : Nat) = 16 by decide), if_neg (show ¬ (0 : Nat) = 16 by decide), g]
theorem refHash_S (s : ByteArray) (w : World) (hs : s.size ≤ 140737488351744) :
  Calls Tryz.prog 61 #[.string s] w fun e w' => e = .returned (.string (qaL (qa5 (qax s)))) ∧ Below w.heap.size w w' := by
 refine (refHash_any s w hs).mono ?_
 rintro e w' ⟨NB, hNB, rfl, hB⟩
 refine ⟨?_, hB⟩
 rw [same_hash (qaz s) NB hNB (by rw [qaQ]; omega)]
 rfl
section
attribute [local irreducible] sA
set_option maxRecDepth 100000 in
set_option maxHeartbeats 1000000 in
theorem refHashed (s : ByteArray) (hs : s.size ≤ 140737488351744) (N : Nat) (hN : N = qaC (qa5 (qax s)) % qcB) (w : World) :
  Calls Tryz.prog 38 #[.string s] w fun e w' => e = .returned (.agg (sA (leB N 32))) ∧ Below w.heap.size w w' := by
 have hz := zeroS
 have HN := qaf hN
 have HS := qaf hs
 clear hN hs
 go_enter Tryz.func38, Tryz.ntmps38
 go_upto_region 1 with fail
 obtain ⟨W0, hW0⟩ : ∃ W, W = w.alloc (.cells zS 91) := ⟨_, rfl⟩
 have RZ : Hid (W0.heap[w.heap.size]? = some (.cells zS 91 (0, 0))) := by rw [hW0]; exact heap_alloc_new _ _
 have BL : Hid (Below w.heap.size w W0) := by rw [hW0]; exact (Below.refl _ _).alloc (Nat.le_refl _) _
 rw [← hW0]
 clear hW0
 go_wp2_with fail
 refine (refHash_S s _ HS.out).mono ?_
 rintro e W1 ⟨rfl, hB⟩
 have RZ := qaf (qaa RZ.out hB)
 have BL := kTr BL hB
 clear hB
 obtain ⟨H, EH⟩ : ∃ H, Hid (H = qa5 (qax s)) := ⟨_, qaf rfl⟩
 rw [← EH.out]
 go_wp2_with fail
 refine (reduced_any (qaL H) (by rw [qbY, EH.out, qbj]; decide) _).mono ?_
 rintro e W2 ⟨rfl, hB⟩
 have RZ := qaf (qaa RZ.out hB)
 have BL := kTr BL hB
 clear hB
 rw [red_sA, EH.out, ← HN.out]
 go_wp2_with (first | (refine wpList_store_row (by rfl) 91 (.tmp 2) (.tmp 7) (by rfl) w.heap.size (sA (leB N 32)) (by rfl) (by rfl) 91 _ RZ.out (qbo _) (qeb _) (qd3 _) ?_))
 refine bodyPost_ret (v := .agg (sA (leB N 32))) (results_cell_row Tryz.results38 _ _ w.heap.size 91 _ (0, 0) _ (by rfl) (setRow_heap _ _ _ _ _ _ RZ.out) qbw rfl (qbo _)) rfl ⟨rfl, below_setRow BL.out (Nat.le_refl _) _⟩
end
def sLs (l : List UInt8) : List Value := (sRow l 16).map iv
theorem qbn {w : World} {b : Nat} {l : List UInt8} {T : TypeId} {fr : Nat × Nat} (h : w.heap[b]? = some (.cells (sA l) T fr)) : w.rangeAt b 0 (sLs l) := by
 intro j v hv
 rw [Nat.zero_add, cell_of_row w b j _ T _ h, show sA l = (sLs l).toArray from rfl, List.getElem?_toArray]
 exact hv
theorem yldS {ops : Array Oper} {S : World → Prop} {op : Oper} {a : Act} (hw : Region.wanted op (yielded ops a.tmps) = true) (x : Operand) (ho : op.op = .load 91 x)
  (b o : Nat) (l : List UInt8) (hx : a.eval x = .pointer (some ⟨b, o, none⟩)) (hS : ∀ w, S w → w.rangeAt b o (sLs l)) : YieldsIf Tryz.prog ops S op (.agg (sA l)) a :=
 yld_load hw _ x ho b o hx (sLs l) (sA l) rfl _ hS qbw rfl (by rw [show (sLs l).length = 17 by rw [sLs, List.length_map, qca]]; exact sizeS)
theorem str_ext {a b : ByteArray} (h : a.data = b.data) : a = b := by cases a; cases b; simpa using h
theorem strOf_drop (H : List UInt8) (n : Nat) : (qaL H).extract n (qaL H).size = qaL (H.drop n) := by
 apply str_ext
 rw [ByteArray.data_extract]
 show H.toArray.extract n H.toArray.size = (H.drop n).toArray
 apply Array.ext'
 simp [List.extract_eq_take_drop]
 try exact List.take_of_length_le (by simp)
section
attribute [local irreducible] sA sLs
set_option maxRecDepth 100000 in
set_option maxHeartbeats 2000000 in
theorem refSecret (s : ByteArray) (hs : s.size ≤ 140737488351744) (w : World) :
  Calls Tryz.prog 32 #[.string s] w fun e w' => e = .returned (.tuple #[.agg (sA (sdL ((qa5 (qax s)).take 32))), .string (qaL ((qa5 (qax s)).drop 32))]) ∧ Below w.heap.size w w' := by
 have hz := zeroS
 have HS := qaf hs
 clear hs
 go_enter Tryz.func32, Tryz.ntmps32
 go_upto_region 1 with fail
 obtain ⟨W0, hW0⟩ : ∃ W, W = w.alloc (.cells zS 91) := ⟨_, rfl⟩
 have Z2 : Hid (W0.heap[w.heap.size]? = some (.cells zS 91 (0, 0))) := by rw [hW0]; exact heap_alloc_new _ _
 have BL : Hid (Below w.heap.size w W0) := by rw [hW0]; exact (Below.refl _ _).alloc (Nat.le_refl _) _
 rw [← hW0]
 clear hW0
 go_wp2_with fail
 refine (refHash_S s _ HS.out).mono ?_
 rintro e W1 ⟨rfl, hB⟩
 have Z2 := qaf (qaa Z2.out hB)
 have BL := kTr BL hB
 clear hB
 obtain ⟨H, EH⟩ : ∃ H, Hid (H = qa5 (qax s)) := ⟨_, qaf rfl⟩
 have HH : Hid (H.length = 64) := by rw [EH.out]; exact qbj _
 rw [← EH.out]
 go_wp2_with fail
 refine (scalarOfG (qaL H) (by rw [qbY, HH.out]; decide) _).mono ?_
 rintro e W2 ⟨rfl, hB⟩
 have Z2 := qaf (qaa Z2.out hB)
 have BL := kTr BL hB
 clear hB
 rw [qa6]
 go_upto_region 3 with (first
  | (refine wpList_store_row (by rfl) 91 (.tmp 5) (.tmp 9) (by rfl) W2.heap.size (sA H) (by rfl) (by rfl) 91 _ (heap_alloc_new _ _) (qbo _) (qeb _) (qd3 _) ?_))
 try rw [qal]
 obtain ⟨g5, hg5⟩ : ∃ s, s = W2.heap.size := ⟨_, rfl⟩
 generalize hW3 : World.setRow _ _ _ = W3
 have hgz : w.heap.size < g5 := by rw [hg5]; exact qae Z2.out
 have K3 : Hid (Below W2.heap.size W2 W3) := by rw [← hW3]; exact below_setRow ((Below.refl _ _).alloc (Nat.le_refl _) _) (Nat.le_refl _) _
 have R5 : Hid (W3.heap[g5]? = some (.cells ((sRow H 16).map iv).toArray 91 (0, 0))) := by rw [← hW3, hg5, ← sA_def]; exact setRow_heap _ _ _ _ _ _ (heap_alloc_new _ _)
 have Z2 := qaf (qaa Z2.out K3.out)
 have BL : Hid (Below w.heap.size w W3) := BL.out.trans (K3.out.mono BL.out.size)
 rw [← hg5]
 clear hW3 hg5 K3
 have c0 := qaP R5.out 0 (by rw [qca]; decide)
 have f0 := frozen_of_row W3 g5 0 _ _ R5.out
 rw [sRow_get H 16 0 (by decide) (by decide)] at c0
 obtain ⟨x, HX⟩ : ∃ x, Hid (x = wI H 0) := ⟨_, qaf rfl⟩
 rw [← HX.out] at c0
 have x0 : 0 ≤ x := by rw [HX.out]; exact (qdz H 0).1
 have x1 : x < 65536 := by rw [HX.out]; exact (qdz H 0).2
 have hm : x.tmod 8 = x % 8 := Int.tmod_eq_emod_of_nonneg x0
 go_upto_region 4 with fail
 try rw [qal]
 generalize hW4 : World.setCell _ _ _ = W4
 have R5b : Hid (W4.heap[g5]? = some (.cells (((sRow H 16).set 0 (x - x % 8)).map iv).toArray 91 (0, 0))) := by
  have e := qaA R5.out 0 (iv (x - x % 8))
  rw [← List.map_set] at e
  rw [← hW4]; exact e
 have Z2 : Hid (W4.heap[w.heap.size]? = some (.cells zS 91 (0, 0))) := by rw [← hW4]; exact qa7 _ _ Z2.out (by omega)
 have BL : Hid (Below w.heap.size w W4) := by rw [← hW4]; exact BL.out.setCell (Nat.le_of_lt hgz) _
 clear hW4 R5 c0 f0 hm
 have c1 := qaP R5b.out 15 (by rw [List.length_set, qca]; decide)
 have f1 := frozen_of_row W4 g5 15 _ _ R5b.out
 rw [show ((sRow H 16).set 0 (x - x % 8)).getD 15 0 = (sRow H 16).getD 15 0 by simp [List.getD_eq_getElem?_getD], sRow_get H 16 15 (by decide) (by decide)] at c1
 obtain ⟨y, HY⟩ : ∃ x, Hid (x = wI H 15) := ⟨_, qaf rfl⟩
 rw [← HY.out] at c1
 have y0 : 0 ≤ y := by rw [HY.out]; exact (qdz H 15).1
 have y1 : y < 65536 := by rw [HY.out]; exact (qdz H 15).2
 have hm2 : y.tmod 16384 = y % 16384 := Int.tmod_eq_emod_of_nonneg y0
 have y2 : 0 ≤ y % 16384 := by omega
 have y3 : y % 16384 < 16384 := by omega
 go_upto_region 5 with fail
 try rw [qal]
 generalize hW5 : World.setCell _ _ _ = W5
 obtain ⟨D, ED⟩ : ∃ D, Hid (D = sdL (H.take 32)) := ⟨_, qaf rfl⟩
 have R5 : Hid (W5.heap[g5]? = some (.cells (sA D) 91 (0, 0))) := by
  have e := qaA R5b.out 15 (iv (y % 16384 + 16384))
  rw [← List.map_set, sd_row H (by rw [HH.out]; decide) _ _ (by rw [HX.out]) (by rw [HY.out]), ← ED.out, ← sA_def] at e
  rw [← hW5]; exact e
 have Z2 : Hid (W5.heap[w.heap.size]? = some (.cells zS 91 (0, 0))) := by rw [← hW5]; exact qa7 _ _ Z2.out (by omega)
 have B5 : Hid (Below w.heap.size w W5) := by rw [← hW5]; exact BL.out.setCell (Nat.le_of_lt hgz) _
 clear hW5 R5b c1 f1 hm2 BL
 obtain ⟨X, EX⟩ : ∃ X, Hid (X = qaL H) := ⟨_, qaf rfl⟩
 have hX : (X.size : Int) = 64 := by rw [EX.out, qbY, HH.out]; rfl
 have hX' : (32 : Int) ≤ (X.size : Int) := by omega
 rw [← EX.out]
 refine wp_region_held_drew (S := fun w' => w'.rangeAt g5 0 (sLs D)) (by kernel_rfl) (qbn R5.out) (fun hHeld => ?_)
 have KV1 : Hid (Below W5.heap.size W5 W5.drew) := (Below.refl _ _).drew
 obtain ⟨V1, hV1⟩ : ∃ V, V = W5.drew := ⟨_, rfl⟩
 rw [← hV1] at hHeld KV1 ⊢
 clear hV1
 refine wpAnyH_take (i := 0) (oi := ⟨some 22, .load 91 (.tmp 5), 91, "sign.go:17", #[], none⟩) (v := .agg (sA D)) rfl (by kernel_rfl) (by kernel_rfl) (by kernel_rfl) (fun _ _ _ h => h) (yldS (by rfl) _ rfl g5 0 D rfl (fun w h => h)) hHeld ?_
 simp only [zaP, zsT, zsZ, zsS]
 refine wpAnyH_take (i := 1) (oi := ⟨some 23, .move (.tmp 4), 9, "sign.go:17", #[], none⟩) (v := .string X) rfl (by kernel_rfl) (by kernel_rfl) (by kernel_rfl) (fun _ _ _ h => h) (Or.inl ⟨by rfl, fun w _ => by go_simp⟩) hHeld ?_
 simp only [zaP, zsT, zsZ, zsS]
 refine wpAnyH_take (i := 2) (oi := ⟨some 24, .slice 9 (.tmp 23) (some (.const (.int .i64 32))) none none, 9, "sign.go:17", #[zeD 1], none⟩) (v := .string (X.extract 32 X.size)) rfl (by kernel_rfl) (by kernel_rfl) (by kernel_rfl) (fun _ _ _ h => h) (Or.inl ⟨by rfl, fun w _ => by go_simp⟩) hHeld ?_
 simp only [zaP, zsT, zsZ, zsS]
 refine wpAnyH_ready (rs := [3]) (by kernel_rfl) (by simp) ?_
 refine AllReadyH.cons (o := ⟨none, .store 91 (.tmp 2) (.tmp 22), 0, "sign.go:17", #[zeD 0, zeP 0, ⟨1, .textOnly .lateStores⟩, ⟨2, .textOnly .lateStoresUnsure⟩], none⟩) rfl (fun K hK => ?_) ?_
 ·
  have Z2 := qaf (qah Z2.out KV1.out (qae Z2.out))
  refine qaj _ (by rfl) 91 (.tmp 2) (.tmp 22) (by rfl) (w.heap.size) (sA D) (by rfl) (by rfl) 91 _ Z2.out (qbo _) (qeb _) (qd3 _) ?_
  rw [qal]
  obtain ⟨V2, hV2⟩ : ∃ V, V = World.setRow V1 w.heap.size (sA D) := ⟨_, rfl⟩
  have Z2 : Hid (V2.heap[w.heap.size]? = some (.cells (sA D) 91 (0, 0))) := by rw [hV2]; exact setRow_heap _ _ _ _ _ _ Z2.out
  have KV2 : Hid (Below w.heap.size w V2) := by rw [hV2]; exact below_setRow (B5.out.trans (KV1.out.mono B5.out.size)) (by omega) _
  have SS : Hid _ := qaf ((qak (qad (qbn R5.out) KV1.out (qae R5.out)) (by omega) : (World.setRow _ w.heap.size (sA D)).rangeAt g5 0 (sLs D)))
  rw [← hV2] at SS
  rw [← hV2]
  clear hV2
  refine hK.out _ _ ?_ (fun hHeld => ?_)
  · exact SS.out
  clear hK K
  try simp only [zaP, zsT, zsZ, zsS]
  refine wpAnyH_take (i := 4) (oi := ⟨some 3, .assign (.tmp 24), 9, "sign.go:17", #[zeD 2, zeC 3, zeP 0, zeP 1, zeP 2, zeP 3], none⟩) (v := .string (X.extract 32 X.size)) rfl (by kernel_rfl) (by kernel_rfl) (by kernel_rfl) (fun _ _ _ h => h) (Or.inl ⟨by rfl, fun w _ => by go_simp⟩) hHeld ?_
  simp only [zaP, zsT, zsZ, zsS]
  refine wpAnyH_done (by kernel_rfl) ?_ _
  go_wp2_with fail
  refine bodyPost_ret (v := .tuple #[.agg (sA D), .string (X.extract 32 X.size)]) (qas Tryz.results32 _ _ w.heap.size 91 _ (0, 0) _ (by rfl) Z2.out qbw rfl (qbo _)) rfl ⟨by rw [EX.out, strOf_drop, ED.out, EH.out], KV2.out⟩
 exact AllReadyH.nil
end
theorem hrunConvL {a : Act} {o : Oper} (x : Operand) (ho : o.op = .convert 89 9 x) (q i : Nat) (l : List UInt8) (hl : l.length = 32) (hx : a.eval x = .slice (some ⟨q, i, none⟩) 32 32) (w : World) (h : w.rangeAt q i (l.map cv)) :
  (execOp a.eval o).run Tryz.prog w = .ok (.value (.string (qaL l))) w := by
 have e := convR w q i l hl h
 unfold execOp
 simp only [ho, hx]
 go_simp
theorem hrunBaseTm {a : Act} {o : Oper} (x y : Operand) (ho : o.op = .call { callee := .value (.func 57), args := #[x, y], argTypes := #[58, 60] }) (v1 v2 : Value) (hx : a.eval x = v1) (hy : a.eval y = v2) (w : World) :
  (execOp a.eval o).run Tryz.prog w = .ok (.enter 57 #[v1, v2]) w := by
 unfold execOp
 simp only [ho]
 subst hx hy
 go_simp
def secL (b n : Nat) (p : ByteArray) (k : Nat) : List Value := .pointer (some ⟨b, 0, none⟩) :: (nL n ++ .string p :: (leB k 32).map cv)
def qd2 (b n : Nat) (p : ByteArray) (k : Nat) : Array Value := (secL b n p k).toArray
def secZ : Array Value := (Value.pointer none :: (nL 0 ++ .string ⟨#[]⟩ :: (leB 0 32).map cv)).toArray
theorem secA_len (b n : Nat) (p : ByteArray) (k : Nat) : (qd2 b n p k).size = 38 := by simp [qd2, secL, qav, nL]
theorem secZ_len : secZ.size = 38 := by simp [secZ, qav, nL]
theorem sizeSec : (Tryz.prog.info? 64).map (·.size) = some 38 := by kernel_rfl
theorem qde (b n : Nat) (p : ByteArray) (k : Nat) : (Tryz.prog.info? 64).map (·.size) = some (qd2 b n p k).size := by rw [secA_len]; exact sizeSec
theorem secZ_size : (Tryz.prog.info? 64).map (·.size) = some secZ.size := by rw [secZ_len]; exact sizeSec
theorem secA_old (b n : Nat) (p : ByteArray) (k : Nat) : secZ.size = (qd2 b n p k).size := by rw [secA_len, secZ_len]
theorem secA_all (b n : Nat) (p : ByteArray) (k : Nat) : (qd2 b n p k).all (·.oneCell') = true := by
 refine all_oneCell_toArray ?_
 intro v hv
 unfold secL at hv
 rcases List.mem_cons.1 hv with rfl | hv
 · rfl
 rcases List.mem_append.1 hv with hv | hv
 ·
  simp only [nL, List.mem_cons, List.not_mem_nil, or_false] at hv
  rcases hv with rfl | rfl | rfl | rfl <;> rfl
 rcases List.mem_cons.1 hv with rfl | hv
 · rfl
 · exact qcf _ v hv
theorem secZ_all : secZ.all (·.oneCell') = true := by kernel_rfl
theorem zeroSec (w : World) : (zeroValue 64).run Tryz.prog w = .ok (.agg secZ) w := by kernel_rfl
theorem builtSec0 : Tryz.prog.built 64 [] = some secZ := by kernel_rfl
theorem builtSec (b n : Nat) (p : ByteArray) (k : Nat) : Tryz.prog.built 64 [(0, .pointer (some ⟨b, 0, none⟩)), (1, .agg (qac n)), (2, .string p), (3, .agg (bA k))] = some (qd2 b n p k) := by kernel_rfl
theorem Tab.bex {b : Nat} {w w' : World} (h : Tab w) (hx : Bex b w w') (hb : 9 ≠ b) : Tab w' := fun i hi =>
 (World.cell?_of_block (w := w) (hx.block 9 h.lt hb)).trans (h i hi)
theorem qcC.bex {b : Nat} {w w' : World} (h : qcC w) (hx : Bex b w w') (hb : 6 ≠ b) : qcC w' := by
 obtain ⟨t, f, e⟩ := h.row
 exact ⟨t, f, (hx.block _ (qae e) hb).trans e⟩
def qc6 : ByteArray := ⟨#[116, 104, 101, 32, 115, 101, 101, 100]⟩
noncomputable def sdN (s : ByteArray) : Nat := qaC (sdL ((qa5 (qax s)).take 32))
noncomputable def sdP (s : ByteArray) : ByteArray := qaL ((qa5 (qax s)).drop 32)
noncomputable def sdC (s : ByteArray) : Nat := cdN (mlP (pwN bpP) (sdN s) 64)
theorem arr32 (b cap : Nat) (w : World) : (Instr.arrayAt 61 (.slice (some ⟨b, 0, none⟩) 32 cap)).run Tryz.prog w = .ok (.pointer (some ⟨b, 0, none⟩)) w := by
 simp [Instr.arrayAt, run_underlying qdc]
section
attribute [local irreducible] qac nL bA bL qd2 secZ pA psA psL pL bpP
set_option maxRecDepth 100000 in
set_option maxHeartbeats 4000000 in
theorem secretOf_no (b : Nat) (s : ByteArray) (hs : s.size ≠ 32) (w : World) :
  Calls Tryz.prog 29 #[.pointer (some ⟨b, 0, none⟩), .string s] w fun e w' => e = .returned (.tuple #[.agg secZ, atE qc6 (szI s.size 32)]) ∧ Below w.heap.size w w' := by
 have hz := zeroSec
 have hs' : ¬ (s.size : Int) = 32 := by omega
 go_enter Tryz.func29, Tryz.ntmps29
 go_wp2_with fail
 refine (ofSize_any qc6 s 32 _).mono ?_
 rintro e W1 ⟨rfl, rfl⟩
 unfold ofSzV
 rw [if_neg hs']
 obtain ⟨E, HE⟩ : ∃ E, Hid (E = Value.agg #[.string qc6, szI s.size 32]) := ⟨_, qaf rfl⟩
 unfold atE
 rw [← HE.out]
 have hb0 := builtSec0
 go_wp2_with (first
  | (refine qcN (by rfl) 64 _ (by rfl) secZ (by exact hb0) ?_)
  | (refine wpList_store_row (by rfl) 64 (.tmp 4) (.tmp 13) (by rfl) w.heap.size secZ (by rfl) (by rfl) 64 _ (heap_alloc_new _ _) secZ_size rfl secZ_all ?_))
 refine bodyPost_ret (v := .tuple #[.agg secZ, .iface 173 E]) (qas Tryz.results29 _ _ w.heap.size 64 _ (0, 0) _ (by rfl) (setRow_heap _ _ _ _ _ _ (heap_alloc_new _ _)) Tryz.underlying64 rfl secZ_size) rfl ⟨by rw [HE.out]; rfl, below_setRow ((Below.refl _ _).alloc (Nat.le_refl _) _) (Nat.le_refl _) _⟩
set_option maxRecDepth 100000 in
set_option maxHeartbeats 4000000 in
theorem secretOf_yes (b : Nat) (s : ByteArray) (hs : s.size = 32) (w : World) (hG : GlB w) (hK : Tab w) (h7 : 13 ≤ b) (hN : qc8 w b) :
  Calls Tryz.prog 29 #[.pointer (some ⟨b, 0, none⟩), .string s] w fun e w' => e = .returned (.tuple #[.agg (qd2 b (sdN s) (sdP s) (sdC s)), .nilIface]) ∧ Bex b w w' ∧ qa2 w' b := by
 have hz := zeroSec
 have hz4 := zero4W
 have hz64 := zero64T
 have hs' : (s.size : Int) = 32 := by omega
 have HS := qaf hs
 have HG := qaf hG
 have HK := qaf hK
 have HN := qaf hN
 have lb := hN.lt
 clear hG hK hN hs
 go_enter Tryz.func29, Tryz.ntmps29
 go_wp2_with fail
 refine (ofSize_any qc6 s 32 _).mono ?_
 rintro e W1 ⟨rfl, rfl⟩
 unfold ofSzV
 rw [if_pos hs']
 clear hs'
 obtain ⟨W0, hW0⟩ : ∃ W, W = w.alloc (.cells secZ 64) := ⟨_, rfl⟩
 have RZ : Hid (W0.heap[w.heap.size]? = some (.cells secZ 64 (0, 0))) := by rw [hW0]; exact heap_alloc_new _ _
 have B0 : Hid (Below w.heap.size w W0) := by rw [hW0]; exact (Below.refl _ _).alloc (Nat.le_refl _) _
 rw [← hW0]
 clear hW0
 go_wp2_with fail
 refine (of_any s _ (HK.out.below B0.out HK.out.lt) (by rw [HS.out]; decide)).mono ?_
 rintro e W1 ⟨rfl, hB⟩
 have RZ := qaf (qaa RZ.out hB)
 have B1 := kTr B0 hB
 clear hB B0
 rw [bytesOfH_eq]
 obtain ⟨H, EH⟩ : ∃ H, Hid (H = qa5 (qax s)) := ⟨_, qaf rfl⟩
 have HH : Hid (H.length = 64) := by rw [EH.out]; exact qbj _
 rw [← EH.out]
 obtain ⟨M, EM⟩ : ∃ M, Hid (M = (H.map cv).toArray) := ⟨_, qaf rfl⟩
 have hM64 : M.size = 64 := by rw [EM.out]; simp [HH.out]
 have MS : Hid ((Tryz.prog.info? 102).map (·.size) = some M.size) := by show _ = _; rw [hM64]; exact size64
 have MO : Hid (z64.size = M.size) := by show _ = _; rw [hM64, z64_def]; simp
 have MA : Hid (M.all (·.oneCell') = true) := by show _ = _; rw [EM.out]; exact all_oneCell_toArray (qcf _)
 rw [← EM.out]
 go_upto_region 5 with (first
  | (refine wpList_store_row (by rfl) 102 (.tmp 7) (.tmp 16) (by rfl) W1.heap.size M (by rfl) (by rfl) 102 _ (heap_alloc_new _ _) MS.out MO.out MA.out ?_))
 try rw [qal]
 obtain ⟨g7, hg7⟩ : ∃ s, s = W1.heap.size := ⟨_, rfl⟩
 generalize hW2 : World.setRow _ _ _ = W2
 have hgz : w.heap.size < g7 := by rw [hg7]; exact qae RZ.out
 have R7 : Hid (W2.heap[g7]? = some (.cells M 102 (0, 0))) := by rw [← hW2, hg7]; exact setRow_heap _ _ _ _ _ _ (heap_alloc_new _ _)
 have RZ : Hid (W2.heap[w.heap.size]? = some (.cells secZ 64 (0, 0))) := by rw [← hW2]; exact (setRow_other _ _ _ _ (by omega)).trans ((heap_alloc_old _ _ (qae RZ.out)).trans RZ.out)
 have B2 : Hid (Below w.heap.size w W2) := by rw [← hW2]; exact below_setRow (B1.out.alloc B1.out.size _) B1.out.size _
 rw [← hg7]
 clear hW2 hg7 B1
 obtain ⟨P1, EP1⟩ : ∃ P, Hid (P = H.take 32) := ⟨_, qaf rfl⟩
 obtain ⟨P2, EP2⟩ : ∃ P, Hid (P = H.drop 32) := ⟨_, qaf rfl⟩
 have HP1 : Hid (P1.length = 32) := by show _ = _; rw [EP1.out, List.length_take, HH.out]; rfl
 have HP2 : Hid (P2.length = 32) := by show _ = _; rw [EP2.out, List.length_drop, HH.out]
 have HHP : Hid (H = P1 ++ P2) := by show _ = _; rw [EP1.out, EP2.out, List.take_append_drop]
 have rM : ∀ {v : World} {T : TypeId} {fr : Nat × Nat}, v.heap[g7]? = some (.cells M T fr) → v.rangeAt g7 0 (P1.map cv) ∧ v.rangeAt g7 32 (P2.map cv) := by
  intro v T fr h
  refine ⟨fun j x hx => ?_, fun j x hx => ?_⟩
  ·
   rw [Nat.zero_add, cell_of_row v g7 j _ T _ h, EM.out, HHP.out, List.getElem?_toArray, List.map_append, List.getElem?_append_left (by
    rcases Nat.lt_or_ge j (P1.map cv).length with k | k
    · exact k
    · rw [List.getElem?_eq_none k] at hx; cases hx)]
   exact hx
  ·
   rw [cell_of_row v g7 (32 + j) _ T _ h, EM.out, HHP.out, List.getElem?_toArray, List.map_append, List.getElem?_append_right (by rw [List.length_map, HP1.out]; omega), List.length_map, HP1.out, Nat.add_sub_cancel_left]
   exact hx
 have hs1 := slice64_to
 have hs2 := arr32
 have hs3 := qdK
 have R7a := qaf (rM R7.out).1
 have S32 : Hid ((Tryz.prog.info? 61).map (·.size) = some (P1.map cv).length) := by show _ = _; rw [List.length_map, HP1.out]; exact size32
 obtain ⟨A1, EA1⟩ : ∃ A, Hid (A = P1.map cv) := ⟨_, qaf rfl⟩
 rw [← EA1.out] at R7a S32
 go_wp2_with (first
  | (refine wpList_load_mid (by rfl) 61 (.tmp 18) (by rfl) g7 0 (by rfl) A1 _ R7a.out qdc rfl S32.out ?_))
 rw [EA1.out]
 refine (seedNumA P1 HP1.out _).mono ?_
 rintro e W3 ⟨rfl, hB⟩
 have RZ := qaf (qaa RZ.out hB)
 have R7 := qaf (qaa R7.out hB)
 have B3 := kTr B2 hB
 clear hB B2 R7a S32 EA1
 obtain ⟨n, En⟩ : ∃ n, Hid (n = qaC (sdL P1)) := ⟨_, qaf rfl⟩
 rw [← En.out]
 go_upto_region 6 with (first
  | (refine wpList_store_row (by rfl) 60 (.tmp 8) (.tmp 20) (by rfl) W3.heap.size (qac n) (by rfl) (by rfl) 60 _ (heap_alloc_new _ _) (qbu _) (n4W _ _) (qaq _) ?_))
 try rw [qal]
 obtain ⟨g8, hg8⟩ : ∃ s, s = W3.heap.size := ⟨_, rfl⟩
 generalize hW5 : World.setRow _ _ _ = W5
 have hg87 : g7 < g8 := by rw [hg8]; exact qae R7.out
 have R8 : Hid (W5.heap[g8]? = some (.cells (qac n) 60 (0, 0))) := by rw [← hW5, hg8]; exact setRow_heap _ _ _ _ _ _ (heap_alloc_new _ _)
 have R7 : Hid (W5.heap[g7]? = some (.cells M 102 (0, 0))) := by rw [← hW5]; exact (setRow_other _ _ _ _ (by omega)).trans ((heap_alloc_old _ _ (qae R7.out)).trans R7.out)
 have RZ : Hid (W5.heap[w.heap.size]? = some (.cells secZ 64 (0, 0))) := by rw [← hW5]; exact (setRow_other _ _ _ _ (by omega)).trans ((heap_alloc_old _ _ (qae RZ.out)).trans RZ.out)
 have B5 : Hid (Below w.heap.size w W5) := by rw [← hW5]; exact below_setRow (B3.out.alloc B3.out.size _) B3.out.size _
 rw [← hg8]
 clear hW5 hg8 B3
 have R7b := qaf (rM R7.out).2
 have l7 := qae R7.out
 have n8 : g8 ≠ b := by omega
 have n7 : g7 ≠ b := by omega
 have nz : w.heap.size ≠ b := by omega
 have G5 := qaf (HG.out.keep B5.out)
 have N5 := qaf (HN.out.keep (B5.out.block b lb))
 have lb5 := N5.out.lt
 have BX5 : Hid (Bex b w W5) := Bex.of B5.out
 clear rM R7
 refine wp_region_held_drew (S := fun w' => w'.rangeAt g8 0 (nL n) ∧ w'.rangeAt g7 32 (P2.map cv)) (by kernel_rfl) ⟨qa8 R8.out, R7b.out⟩ (fun hHeld => ?_)
 have KV1 : Hid (Below W5.heap.size W5 W5.drew) := (Below.refl _ _).drew
 obtain ⟨V1, hV1⟩ : ∃ V, V = W5.drew := ⟨_, rfl⟩
 rw [← hV1] at hHeld KV1 ⊢
 clear hV1
 refine wpAnyH_take (i := 0) (oi := ⟨some 21, .move (.tmp 0), 58, "secret.go:29", #[], none⟩) (v := .pointer (some ⟨b, 0, none⟩)) rfl (by kernel_rfl) (by kernel_rfl) (by kernel_rfl) (fun _ _ _ h => h) (Or.inl ⟨by rfl, fun w _ => by go_simp⟩) hHeld ?_
 simp only [zaP, zsT, zsZ, zsS]
 refine wpAnyH_take (i := 1) (oi := ⟨some 22, .load 60 (.tmp 8), 60, "secret.go:29", #[], none⟩) (v := .agg (qac n)) rfl (by kernel_rfl) (by kernel_rfl) (by kernel_rfl) (fun _ _ _ h => h) (yldU (by rfl) _ rfl g8 0 n rfl (fun w h => h.1)) hHeld ?_
 simp only [zaP, zsT, zsZ, zsS]
 refine wpAnyH_take (i := 2) (oi := ⟨some 23, .slice 102 (.tmp 7) (some (.const (.int .i64 32))) none none, 89, "secret.go:29", #[], none⟩) (v := .slice (some ⟨g7, 32, none⟩) 32 32) rfl (by kernel_rfl) (by kernel_rfl) (by kernel_rfl) (fun _ _ _ h => h) (Or.inl ⟨by rfl, fun w _ => by go_simp⟩) hHeld ?_
 simp only [zaP, zsT, zsZ, zsS]
 refine wpAnyH_take (i := 3) (oi := ⟨some 24, .convert 89 9 (.tmp 23), 9, "secret.go:29", #[zeD 2], none⟩) (v := .string (qaL P2)) rfl (by kernel_rfl) (by kernel_rfl) (by kernel_rfl) (fun _ _ _ h => h) (Or.inl ⟨by rfl, fun v h => hrunConvL _ rfl g7 32 P2 HP2.out rfl v h.2⟩) hHeld ?_
 simp only [zaP, zsT, zsZ, zsS]
 refine wpAnyH_take (i := 4) (oi := ⟨some 25, .move (.tmp 0), 58, "secret.go:29", #[], none⟩) (v := .pointer (some ⟨b, 0, none⟩)) rfl (by kernel_rfl) (by kernel_rfl) (by kernel_rfl) (fun _ _ _ h => h) (Or.inl ⟨by rfl, fun w _ => by go_simp⟩) hHeld ?_
 simp only [zaP, zsT, zsZ, zsS]
 refine wpAnyH_take (i := 5) (oi := ⟨some 26, .load 60 (.tmp 8), 60, "secret.go:29", #[], none⟩) (v := .agg (qac n)) rfl (by kernel_rfl) (by kernel_rfl) (by kernel_rfl) (fun _ _ _ h => h) (yldU (by rfl) _ rfl g8 0 n rfl (fun w h => h.1)) hHeld ?_
 simp only [zaP, zsT, zsZ, zsS]
 have G1 := qaf (G5.out.keep KV1.out)
 have N1 := qaf (N5.out.keep (KV1.out.block b lb5))
 refine wpAnyH_ready (rs := [6]) (by kernel_rfl) (by simp) ?_
 refine AllReadyH.cons (o := ⟨some 27, .call ⟨.value (.func 57), #[.tmp 25, .tmp 26], #[58, 60]⟩, 82, "secret.go:33", #[zeD 4, zeD 5], none⟩) rfl (fun K hK => ?_) AllReadyH.nil
 refine qag (by rfl) _ _ (hrunBaseTm _ _ rfl (.pointer (some ⟨b, 0, none⟩)) (.agg (qac n)) rfl rfl V1) _ (fun V2 => Bex b V1 V2 ∧ qa2 V2 b) (baseTimesNew b n V1 G1.out h7 N1.out) (fun V2 HBx => ?_)
 have X2 : Hid (Bex b W5 V2) := (Bex.of KV1.out).trans HBx.1
 have D2 := qaf HBx.2
 clear HBx
 have R8 : Hid (V2.heap[g8]? = some (.cells (qac n) 60 (0, 0))) := (X2.out.block _ (qae R8.out) n8).trans R8.out
 have R7b : Hid (V2.rangeAt g7 32 (P2.map cv)) := fun j v hv => (World.cell?_of_block (X2.out.block _ l7 n7)).trans (R7b.out j v hv)
 have RZ : Hid (V2.heap[w.heap.size]? = some (.cells secZ 64 (0, 0))) := (X2.out.block _ (qae RZ.out) nz).trans RZ.out
 refine hK.out _ _ ⟨qa8 R8.out, R7b.out⟩ (fun hHeld => ?_)
 clear hK K
 try simp only [zaP, zsT, zsZ, zsS]
 refine wpAnyH_ready (rs := [7]) (by kernel_rfl) (by simp) ?_
 refine AllReadyH.cons (o := ⟨some 28, .call ⟨.value (.func 58), #[.tmp 27], #[82]⟩, 62, "secret.go:33", #[zeD 6, zeC 6], none⟩) rfl (fun K hK => ?_) AllReadyH.nil
 refine qag (by rfl) _ _ (hrunPtCode _ rfl (.agg (pA (mlP (pwN bpP) n 64))) rfl V2) _ _ (ptCodeA (mlP (pwN bpP) n 64) (mlP_ok _ n 64) V2) (fun V3 HBx => ?_)
 have R8 := qaf (qaa R8.out HBx)
 have l7v : g7 < V2.heap.size := World.block_lt_of_cell? V2 _ (R7b.out 0 (cv (P2.getD 0 0)) (by rw [List.getElem?_map, List.getElem?_eq_getElem (by rw [HP2.out]; decide)]; simp [List.getD, HP2.out]))
 have R7b : Hid (V3.rangeAt g7 32 (P2.map cv)) := fun j v hv => (World.cell?_of_block (HBx.block _ l7v)).trans (R7b.out j v hv)
 have RZ := qaf (qaa RZ.out HBx)
 have D3 := qaf (D2.out.keep (HBx.block b D2.out.lt))
 have X3 := qaf (X2.out.trans (Bex.of HBx))
 clear HBx X2 D2
 obtain ⟨c, Ec⟩ : ∃ c, Hid (c = cdN (mlP (pwN bpP) n 64)) := ⟨_, qaf rfl⟩
 rw [← Ec.out]
 refine hK.out _ _ ⟨qa8 R8.out, R7b.out⟩ (fun hHeld => ?_)
 clear hK K
 try simp only [zaP, zsT, zsZ, zsS]
 refine wpAnyH_take (i := 8) (oi := ⟨some 29, .build 64 #[(0, .tmp 21), (1, .tmp 22), (2, .tmp 24), (3, .tmp 28)], 64, "secret.go:29", #[zeD 0, zeD 1, zeD 3, zeD 7], none⟩) (v := .agg (qd2 b n (qaL P2) c)) rfl (by kernel_rfl) (by kernel_rfl) (by kernel_rfl) (fun _ _ _ h => h) (qb3 (by rfl) _ _ rfl _ _ (by kernel_rfl) (builtSec b n (qaL P2) c)) hHeld ?_
 simp only [zaP, zsT, zsZ, zsS]
 refine wpAnyH_ready (rs := [9]) (by kernel_rfl) (by simp) ?_
 refine AllReadyH.cons (o := ⟨none, .store 64 (.tmp 4) (.tmp 29), 0, "secret.go:29", #[zeD 8, zeC 7, zeP 0, zeP 1, zeP 2, zeP 3, zeP 4, zeP 5, zeP 6, zeP 7, zeP 8], none⟩) rfl (fun K hK => ?_) AllReadyH.nil
 refine qaj _ (by rfl) 64 (.tmp 4) (.tmp 29) (by rfl) w.heap.size (qd2 b n (qaL P2) c) (by rfl) (by rfl) 64 _ RZ.out (qde _ _ _ _) (secA_old _ _ _ _) (secA_all _ _ _ _) ?_
 rw [qal]
 obtain ⟨V4, hV4⟩ : ∃ V, V = World.setRow V3 w.heap.size (qd2 b n (qaL P2) c) := ⟨_, rfl⟩
 have RZ : Hid (V4.heap[w.heap.size]? = some (.cells (qd2 b n (qaL P2) c) 64 (0, 0))) := by rw [hV4]; exact setRow_heap _ _ _ _ _ _ RZ.out
 have D4 : Hid (qa2 V4 b) := by rw [hV4]; exact D3.out.keep (setRow_other _ _ _ _ (by omega))
 have X4 : Hid (Bex b w V4) := by rw [hV4]; exact (BX5.out.trans X3.out).setRow (Nat.le_refl _) _
 have S4 : Hid (V4.rangeAt g8 0 (nL n) ∧ V4.rangeAt g7 32 (P2.map cv)) := by rw [hV4]; exact ⟨qak (qa8 R8.out) (by omega), qak R7b.out (by omega)⟩
 rw [← hV4]
 clear hV4
 refine hK.out _ _ S4.out (fun hHeld => ?_)
 clear hK K
 try simp only [zaP, zsT, zsZ, zsS]
 refine wpAnyH_take (i := 10) (oi := ⟨some 5, .assign (.const .nilIface), 66, "secret.go:29", #[zeC 9, zeP 0, zeP 1, zeP 2, zeP 3, zeP 4, zeP 5, zeP 6, zeP 7, zeP 8, zeP 9], none⟩) (v := .nilIface) rfl (by kernel_rfl) (by kernel_rfl) (by kernel_rfl) (fun _ _ _ h => h) (Or.inl ⟨by rfl, fun w _ => by go_simp⟩) hHeld ?_
 simp only [zaP, zsT, zsZ, zsS]
 refine wpAnyH_done (by kernel_rfl) ?_ _
 go_wp2_with fail
 refine bodyPost_ret (v := .tuple #[.agg (qd2 b n (qaL P2) c), .nilIface]) (qas Tryz.results29 _ _ w.heap.size 64 _ (0, 0) _ (by rfl) RZ.out Tryz.underlying64 rfl (qde _ _ _ _)) rfl ⟨?_, X4.out, D4.out⟩
 unfold sdC sdP sdN
 rw [← EH.out, ← EP1.out, ← EP2.out, ← En.out, Ec.out]
end
end Go.Proofs.YtccgfabojbjmjaaGreatDoor
