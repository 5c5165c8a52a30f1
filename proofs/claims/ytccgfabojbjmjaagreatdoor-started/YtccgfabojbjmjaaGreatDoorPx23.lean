import Derived.Test.YtccgfabojbjmjaaGreatDoorPx22
import Derived.Test.YtccgfabojbjmjaaGreatDoorPx21
namespace Go.Proofs.YtccgfabojbjmjaaGreatDoor
open Go.RowKit
def ksN (s : ByteArray) : Nat := valLE (ksB s)
theorem ksN_lt (s : ByteArray) : ksN s < 115792089237316195423570985008687907853269984665640564039457584007913129639936 := by
 have h := valLE_lt (ksB s)
 rw [ksB_length] at h
 exact h
theorem keySizedA (s : ByteArray) (w : World) :
  Calls Tryz.prog 117 #[.string s] w fun e w' => e = .returned (.tuple #[.agg (bA (ksN s)), .bool (ksO s)]) ∧ Below w.heap.size w w' := by
 have c := keySized_any s w
 have e : bA (ksN s) = ((ksB s).map cv).toArray := by unfold bA ksN; rw [leB_valLE _ (ksB_length s)]
 rw [e]; exact c
def poB (s : ByteArray) : Bool := ksO s && dcB (ksN s)
def poP (s : ByteArray) : Pt := if poB s = true then dcP (ksN s) else p0
theorem ptOf_ok {x y : Nat} (hx : x < P) (hy : y < P) : (ptOf x y).Ok := ⟨hx, hy, one_lt, mP_lt _ _⟩
theorem p0_ok : p0.Ok := ⟨P_pos, P_pos, P_pos, P_pos⟩
theorem dcP_ok (n : Nat) : (dcP n).Ok := by
 unfold dcP; split
 · exact ptOf_ok (xofV_lt _ _) (ofbV_lt _)
 · exact p0_ok
theorem dcP_false {n : Nat} (h : dcB n = false) : dcP n = p0 := by unfold dcP; rw [h, if_neg (by decide)]
section
attribute [local irreducible] num4A nL pA bA ksN dcB dcP
set_option maxRecDepth 100000 in
set_option maxHeartbeats 4000000 in
theorem latchPointOfA (s : ByteArray) (w : World) (hG : Gl w) :
  Calls Tryz.prog 78 #[.string s] w fun e w' => e = .returned (.tuple #[.agg (pA (poP s)), .bool (poB s)]) ∧ Below w.heap.size w w' := by
 have hzp := zeroP
 have hzc := zero32A
 have HGl := hide hG
 clear hG
 go_enter Tryz.func78, Tryz.ntmps78
 go_upto_region 1 with fail
 obtain ⟨W0, hW0⟩ : ∃ W, W = w.alloc (.cells (pA p0) 82) := ⟨_, rfl⟩
 have RZ : Hid (W0.heap[w.heap.size]? = some (.cells (pA p0) 82 (0, 0))) := by rw [hW0]; exact heap_alloc_new _ _
 have BL : Hid (Below w.heap.size w W0) := by rw [hW0]; show Below _ _ _; go_grown
 rw [← hW0]
 clear hW0
 go_wp2_with fail
 refine (keySizedA s _).mono ?_
 rintro e W1 ⟨rfl, hB1⟩
 have RZ := hide (row_keep' RZ.out hB1)
 have BL := kTr BL hB1
 clear hB1
 obtain ⟨n, En⟩ : ∃ n, Hid (n = ksN s) := ⟨_, rfl⟩
 obtain ⟨kb, Ek⟩ : ∃ b, Hid (b = ksO s) := ⟨_, rfl⟩
 have Hn : Hid (n < 115792089237316195423570985008687907853269984665640564039457584007913129639936) := by rw [En.out]; exact ksN_lt s
 rw [← En.out, ← Ek.out]
 go_upto_region 2 with (first | (refine wpList_store_row (by rfl) 61 (.tmp 4) (.tmp 9) (by rfl) W1.heap.size (bA n) (by rfl) (by rfl) 61 _ (heap_alloc_new _ _) (bA_size' _) (bA_old _ _) (bA_all _) ?_))
 obtain ⟨gn, hgn⟩ : ∃ q, q = W1.heap.size := ⟨_, rfl⟩
 obtain ⟨W2, hW2⟩ : ∃ W, W = (W1.alloc (.cells (bA 0) 61)).setRow W1.heap.size (bA n) := ⟨_, rfl⟩
 have lRZgn : w.heap.size < gn := by rw [hgn]; exact lt_row RZ.out
 have RZ' : Hid (W2.heap[w.heap.size]? = some (.cells (pA p0) 82 (0, 0))) := by rw [hW2]; exact (setRow_other _ _ _ _ (by omega)).trans ((heap_alloc_old _ _ (by omega)).trans RZ.out)
 have RN : Hid (W2.heap[gn]? = some (.cells (bA n) 61 (0, 0))) := by rw [hW2, hgn]; exact setRow_heap _ _ _ _ _ _ (heap_alloc_new _ _)
 have BL' : Hid (Below w.heap.size w W2) := by rw [hW2]; exact below_setRow (BL.out.alloc BL.out.size _) BL.out.size _
 rw [← hW2, ← hgn]
 clear hW2 hgn BL RZ
 have RZ := RZ'
 have BL := BL'
 clear RZ' BL'
 cases kb
 case false =>
  have HB : Hid (poB s = false) := by show _ = _; unfold poB; rw [← Ek.out, Bool.false_and]
  go_wp2_with (first | (refine wpList_store_row (by rfl) 82 (.tmp 2) (.tmp 13) (by rfl) (w.heap.size) (pA p0) (by rfl) (by rfl) 82 _ RZ.out (pA_size _) (pA_old _ _) (pA_all _) ?_))
  refine bodyPost_ret (v := .tuple #[.agg (pA p0), .bool false]) (results_cell_tmp_row Tryz.results78 _ _ (w.heap.size) 82 (pA p0) (0, 0) _ (by rfl) (setRow_heap _ _ _ _ _ _ RZ.out) Tryz.underlying82 rfl (pA_size _)) rfl ⟨?_, below_setRow BL.out (Nat.le_refl _) _⟩
  unfold poP; rw [HB.out, if_neg (by decide)]
 case true =>
 go_wp2_with (first | (refine wpList_load_row (by rfl) 61 (.tmp 4) (by rfl) (gn) (by rfl) 61 (bA n) (0, 0) _ RN.out under32 rfl (bA_size' _) ?_))
 refine (decodeA n Hn.out _ (HGl.out.keep BL.out)).mono ?_
 rintro e W3 ⟨rfl, hB3⟩
 have RZ := hide (row_keep' RZ.out hB3)
 have RN := hide (row_keep' RN.out hB3)
 have BL := kTr BL hB3
 clear hB3
 have HB : Hid (poB s = dcB n) := by show _ = _; unfold poB; rw [← Ek.out, ← En.out, Bool.true_and]
 have HP : Hid (poP s = dcP n) := by show _ = _; unfold poP; rw [HB.out, ← En.out]; cases hb : dcB n; (rw [if_neg (by decide), dcP_false hb]); (rw [if_pos rfl])
 obtain ⟨p, Ep⟩ : ∃ p, Hid (p = dcP n) := ⟨_, rfl⟩
 obtain ⟨b, Eb⟩ : ∃ b, Hid (b = dcB n) := ⟨_, rfl⟩
 rw [← Ep.out, ← Eb.out]
 go_wp2_with (first | (refine wpList_store_row (by rfl) 82 (.tmp 2) (.tmp 16) (by rfl) (w.heap.size) (pA p) (by rfl) (by rfl) 82 _ RZ.out (pA_size _) (pA_old _ _) (pA_all _) ?_))
 refine bodyPost_ret (v := .tuple #[.agg (pA p), .bool b]) (results_cell_tmp_row Tryz.results78 _ _ (w.heap.size) 82 (pA p) (0, 0) _ (by rfl) (setRow_heap _ _ _ _ _ _ RZ.out) Tryz.underlying82 rfl (pA_size _)) rfl ⟨by rw [HP.out, HB.out, Ep.out, Eb.out], below_setRow BL.out (Nat.le_refl _) _⟩
end
theorem td_mP : tdN = mP 2 dN := by decide +kernel
theorem poP_ok (s : ByteArray) : (poP s).Ok := by
 unfold poP; split
 · exact dcP_ok _
 · exact p0_ok
theorem partsP_Ok (p q : Pt) : (addP p q).Ok := partsP_ok _ _ _ _
theorem slice48_all (b o : Nat) (w : World) :
  (Instr.sliceAt 62 (.pointer (some ⟨b, o, none⟩)) none none none).run Tryz.prog w = .ok (.slice (some ⟨b, o, none⟩) 32 32) w := by
 cases hq : Tryz.prog.info? 5 with
 | none => have := sizeU8; rw [hq] at this; cases this
 | some i =>
  simp [Instr.sliceAt, Instr.sureAddr, run_underlying underCode, Instr.sliceBounds, sizeOf, typeInfo, hq, Addr.add]
def lAddS (s t : ByteArray) : ByteArray := if (poB s && poB t) = true then strOf (leB (cdN (addP (poP s) (poP t))) 32) else ⟨#[]⟩
def lAddE (s t : ByteArray) : Int := if (poB s && poB t) = true then 0 else 2
theorem lAdd_no {s t : ByteArray} (h : (poB s && poB t) = false) : lAddS s t = ⟨#[]⟩ ∧ lAddE s t = 2 := by
 unfold lAddS lAddE; rw [h, if_neg (by decide), if_neg (by decide)]; exact ⟨rfl, rfl⟩
theorem lAdd_yes {s t : ByteArray} (h : (poB s && poB t) = true) : lAddS s t = strOf (leB (cdN (addP (poP s) (poP t))) 32) ∧ lAddE s t = 0 := by
 unfold lAddS lAddE; rw [h, if_pos rfl, if_pos rfl]; exact ⟨rfl, rfl⟩
section
attribute [local irreducible] num4A nL pA bA poB poP addP cdN lAddS lAddE
set_option maxRecDepth 100000 in
set_option maxHeartbeats 4000000 in
theorem latchAddA (s t : ByteArray) (w : World) (hG : Gl w) :
  Calls Tryz.prog 43 #[.string s, .string t] w fun e w' => e = .returned (.tuple #[.string (lAddS s t), .int .i64 (lAddE s t)]) ∧ Below w.heap.size w w' := by
 have hzp := zeroP
 have hzc := zeroCode
 have HGl := hide hG
 obtain ⟨TT, frr, hg0⟩ := hG.g0
 clear hG hg0
 have BL : Hid (Below w.heap.size w w) := Below.refl _ _
 go_enter Tryz.func43, Tryz.ntmps43
 go_wp2_with fail
 refine (latchPointOfA s _ (HGl.out.keep BL.out)).mono ?_
 rintro e W1 ⟨rfl, hB1⟩
 have BL := kTr BL hB1
 clear hB1
 obtain ⟨p, Ep⟩ : ∃ p, Hid (p = poP s) := ⟨_, rfl⟩
 obtain ⟨b1, Eb1⟩ : ∃ b, Hid (b = poB s) := ⟨_, rfl⟩
 rw [← Ep.out, ← Eb1.out]
 go_upto_region 2 with (first | (refine wpList_store_row (by rfl) 82 (.tmp 6) (.tmp 14) (by rfl) W1.heap.size (pA p) (by rfl) (by rfl) 82 _ (heap_alloc_new _ _) (pA_size _) (pA_old _ _) (pA_all _) ?_))
 obtain ⟨g6, hg6⟩ : ∃ q, q = W1.heap.size := ⟨_, rfl⟩
 obtain ⟨W2, hW2⟩ : ∃ W, W = (W1.alloc (.cells (pA p0) 82)).setRow W1.heap.size (pA p) := ⟨_, rfl⟩
 have RP : Hid (W2.heap[g6]? = some (.cells (pA p) 82 (0, 0))) := by rw [hW2, hg6]; exact setRow_heap _ _ _ _ _ _ (heap_alloc_new _ _)
 have BL' : Hid (Below w.heap.size w W2) := by rw [hW2]; exact below_setRow (BL.out.alloc BL.out.size _) BL.out.size _
 rw [← hW2, ← hg6]
 clear hW2 hg6 BL 
 have BL := BL'
 clear  BL'
 go_wp2_with fail
 refine (latchPointOfA t _ (HGl.out.keep BL.out)).mono ?_
 rintro e W3 ⟨rfl, hB3⟩
 have RP := hide (row_keep' RP.out hB3)
 have BL := kTr BL hB3
 clear hB3
 obtain ⟨q, Eq⟩ : ∃ p, Hid (p = poP t) := ⟨_, rfl⟩
 obtain ⟨b2, Eb2⟩ : ∃ b, Hid (b = poB t) := ⟨_, rfl⟩
 rw [← Eq.out, ← Eb2.out]
 go_upto_region 3 with (first | (refine wpList_store_row (by rfl) 82 (.tmp 8) (.tmp 19) (by rfl) W3.heap.size (pA q) (by rfl) (by rfl) 82 _ (heap_alloc_new _ _) (pA_size _) (pA_old _ _) (pA_all _) ?_))
 obtain ⟨g8, hg8⟩ : ∃ q, q = W3.heap.size := ⟨_, rfl⟩
 obtain ⟨W4, hW4⟩ : ∃ W, W = (W3.alloc (.cells (pA p0) 82)).setRow W3.heap.size (pA q) := ⟨_, rfl⟩
 have lRPg8 : g6 < g8 := by rw [hg8]; exact lt_row RP.out
 have RP' : Hid (W4.heap[g6]? = some (.cells (pA p) 82 (0, 0))) := by rw [hW4]; exact (setRow_other _ _ _ _ (by omega)).trans ((heap_alloc_old _ _ (by omega)).trans RP.out)
 have RQ : Hid (W4.heap[g8]? = some (.cells (pA q) 82 (0, 0))) := by rw [hW4, hg8]; exact setRow_heap _ _ _ _ _ _ (heap_alloc_new _ _)
 have BL' : Hid (Below w.heap.size w W4) := by rw [hW4]; exact below_setRow (BL.out.alloc BL.out.size _) BL.out.size _
 rw [← hW4, ← hg8]
 clear hW4 hg8 BL RP
 have RP := RP'
 have BL := BL'
 clear RP' BL'
 cases b1
 case false =>
  go_wp2_with fail
  go_returns
  obtain ⟨e1, e2⟩ := lAdd_no (s := s) (t := t) (by rw [← Eb1.out, ← Eb2.out]; first | exact Bool.false_and _ | exact Bool.and_false _)
  exact ⟨by rw [e1, e2]; rfl, BL.out⟩
 case true =>
 cases b2
 case false =>
  go_wp2_with fail
  go_returns
  obtain ⟨e1, e2⟩ := lAdd_no (s := s) (t := t) (by rw [← Eb1.out, ← Eb2.out]; first | exact Bool.false_and _ | exact Bool.and_false _)
  exact ⟨by rw [e1, e2]; rfl, BL.out⟩
 case true =>
 have Hpo : Hid (p.Ok) := by rw [Ep.out]; exact poP_ok _
 have Hqo : Hid (q.Ok) := by rw [Eq.out]; exact poP_ok _
 obtain ⟨TT, frr, hg0⟩ := (HGl.out.keep BL.out).g0
 have hg0 := hide hg0
 go_upto_region 5 with fail
 go_wp2_with (first | (refine wpList_load_row (by rfl) 82 (.tmp 6) (by rfl) (g6) (by rfl) 82 (pA p) (0, 0) _ RP.out Tryz.underlying82 rfl (pA_size _) ?_) | (refine wpList_load_row (by rfl) 82 (.tmp 8) (by rfl) (g8) (by rfl) 82 (pA q) (0, 0) _ RQ.out Tryz.underlying82 rfl (pA_size _) ?_))
 refine (ptAddA p q Hpo.out Hqo.out _ TT frr (by rw [td_mP]; exact hg0.out)).mono ?_
 rintro e W5 ⟨rfl, hB5⟩
 have RP := hide (row_keep' RP.out hB5)
 have RQ := hide (row_keep' RQ.out hB5)
 have BL := kTr BL hB5
 clear hB5
 obtain ⟨r, Er⟩ : ∃ r, Hid (r = addP p q) := ⟨_, rfl⟩
 have Hro : Hid (r.Ok) := by rw [Er.out]; exact partsP_Ok _ _
 rw [← Er.out]
 go_wp2_with fail
 refine (ptCodeA r Hro.out _).mono ?_
 rintro e W6 ⟨rfl, hB6⟩
 have RP := hide (row_keep' RP.out hB6)
 have RQ := hide (row_keep' RQ.out hB6)
 have BL := kTr BL hB6
 clear hB6
 obtain ⟨n, En⟩ : ∃ n, Hid (n = cdN r) := ⟨_, rfl⟩
 rw [← En.out]
 go_upto_region 6 with (first | (refine wpList_store_row (by rfl) 62 (.tmp 10) (.tmp 30) (by rfl) W6.heap.size (bA n) (by rfl) (by rfl) 62 _ (heap_alloc_new _ _) (bA_size _) (bA_old _ _) (bA_all _) ?_))
 obtain ⟨g10, hg10⟩ : ∃ q, q = W6.heap.size := ⟨_, rfl⟩
 obtain ⟨W7, hW7⟩ : ∃ W, W = (W6.alloc (.cells (bA 0) 62)).setRow W6.heap.size (bA n) := ⟨_, rfl⟩
 have lRPg10 : g6 < g10 := by rw [hg10]; exact lt_row RP.out
 have lRQg10 : g8 < g10 := by rw [hg10]; exact lt_row RQ.out
 have RP' : Hid (W7.heap[g6]? = some (.cells (pA p) 82 (0, 0))) := by rw [hW7]; exact (setRow_other _ _ _ _ (by omega)).trans ((heap_alloc_old _ _ (by omega)).trans RP.out)
 have RQ' : Hid (W7.heap[g8]? = some (.cells (pA q) 82 (0, 0))) := by rw [hW7]; exact (setRow_other _ _ _ _ (by omega)).trans ((heap_alloc_old _ _ (by omega)).trans RQ.out)
 have RN : Hid (W7.heap[g10]? = some (.cells (bA n) 62 (0, 0))) := by rw [hW7, hg10]; exact setRow_heap _ _ _ _ _ _ (heap_alloc_new _ _)
 have BL' : Hid (Below w.heap.size w W7) := by rw [hW7]; exact below_setRow (BL.out.alloc BL.out.size _) BL.out.size _
 rw [← hW7, ← hg10]
 clear hW7 hg10 BL RP RQ
 have RP := RP'
 have RQ := RQ'
 have BL := BL'
 clear RP' RQ' BL'
 have hsl := fun q => slice48_all q 0
 have hcv2 : (convert 89 9 (.slice (some ⟨g10, 0, none⟩) 32 32)).run Tryz.prog W7 = .ok (.string (strOf (leB n 32))) W7 := conv32 _ _ (leB n 32) (leB_length _ _) 62 (by have e := RN.out; unfold bA at e; exact e)
 obtain ⟨T, HT⟩ : ∃ T, Hid (T = strOf (leB n 32)) := ⟨_, rfl⟩
 rw [← HT.out] at hcv2
 go_wp2_with fail
 go_returns
 refine ⟨?_, BL.out⟩
 obtain ⟨e1, e2⟩ := lAdd_yes (s := s) (t := t) (by rw [← Eb1.out, ← Eb2.out]; rfl)
 rw [e1, e2, ← Ep.out, ← Eq.out, ← Er.out, ← En.out, HT.out]; rfl
end
end Go.Proofs.YtccgfabojbjmjaaGreatDoor
