import Derived.Test.YtemdlpcljjdfjaaDoorPtCode
import Derived.Test.YtemdlpcljjdfjaaDoorXOf
import Derived.Test.YtemdlpcljjdfjaaDoorOfB2
/- curve.Decode (gendec.py). -/
namespace Go.Proofs.YtemdlpcljjdfjaaDoor
open Go.RowKit
theorem and128 (x : Nat) (h : x < 256) : (bits .and .u8 (x : Int) 128 != 0) = decide (128 ≤ x) := by
  have key : ∀ y : Fin 256, (bits .and .u8 ((y.val : Nat) : Int) 128 != 0) = decide (128 ≤ y.val) := by decide +kernel
  exact key ⟨x, h⟩
theorem andNot128 (x : Nat) (h : x < 256) : bits .andNot .u8 (x : Int) 128 = ((x % 128 : Nat) : Int) := by
  have key : ∀ y : Fin 256, bits .andNot .u8 ((y.val : Nat) : Int) 128 = ((y.val % 128 : Nat) : Int) := by decide +kernel
  exact key ⟨x, h⟩
theorem leB_valLE (l : List UInt8) (h : l.length = 32) : leB (valLE l) 32 = l := by
  apply List.ext_getElem
  · rw [leB_length, h]
  · intro i h1 h2
    have hi : i < 32 := by rw [leB_length] at h1; exact h1
    have g : ∀ h : i < (leB (valLE l) 32).length, (leB (valLE l) 32)[i] = byteLE (valLE l) i := by intro h; simp [leB]
    rw [g]
    apply UInt8.toNat_inj.1
    rw [byteLE_nat, valLE_byte]
    simp [List.getD, List.getElem?_eq_getElem h2]
theorem valLE_leB (n : Nat) (h : n < 115792089237316195423570985008687907853269984665640564039457584007913129639936) : valLE (leB n 32) = n := by
  have key : ∀ k m, m < 256 ^ k → valLE (leB m k) = m := by
    intro k
    induction k with
    | zero => intro m hm; simp [leB, valLE]; omega
    | succ k ih =>
      intro m hm
      have e : leB m (k + 1) = byteLE m 0 :: leB (m / 256) k := by
        unfold leB
        rw [List.range_succ_eq_map, List.map_cons, List.map_map]
        congr 1
        apply List.map_congr_left
        intro i _
        show byteLE m (i + 1) = byteLE (m / 256) i
        unfold byteLE
        rw [Nat.pow_succ, Nat.mul_comm (256 ^ i) 256, Nat.div_div_eq_div_mul]
      rw [e]
      simp only [valLE]
      rw [ih (m / 256) (by rw [Nat.pow_succ] at hm; omega), byteLE_nat, Nat.pow_zero, Nat.div_one]
      omega
  exact key 32 n h
/-- The number without the mark, and the mark. -/
abbrev M255n : Nat := 57896044618658097711785492504343953926634992332820282019728792003956564819968
theorem top_byte (n : Nat) (h : n < 115792089237316195423570985008687907853269984665640564039457584007913129639936) : (byteLE n 31).toNat = n / 452312848583266388373324160190187140051835877600158453279131187530910662656 := by
  rw [byteLE_nat, show (256 : Nat) ^ 31 = 452312848583266388373324160190187140051835877600158453279131187530910662656 from by decide]; omega
def dcO (n : Nat) : Bool := decide (57896044618658097711785492504343953926634992332820282019728792003956564819968 ≤ n)
def dcY (n : Nat) : Nat := n % 57896044618658097711785492504343953926634992332820282019728792003956564819968
theorem dcO_top (n : Nat) (h : n < 115792089237316195423570985008687907853269984665640564039457584007913129639936) : decide (128 ≤ (byteLE n 31).toNat) = dcO n := by
  rw [top_byte n h]
  unfold dcO
  congr 1
  apply propext
  omega
theorem clear_row {w : World} {b n : Nat} {T : TypeId} {c : UInt8} (hn : n < 115792089237316195423570985008687907853269984665640564039457584007913129639936) (hc : c = byteLE n 31) (h : w.heap[b]? = some (.cells (bA n) T (0, 0))) : (w.setCell ⟨b, 31, none⟩ (.int .u8 ((c.toNat % 128 : Nat) : Int))).heap[b]? = some (.cells (bA (dcY n)) T (0, 0)) := by
  have hrow : (leB n 32).set 31 (UInt8.ofNat (c.toNat % 128)) = leB (dcY n) 32 := by
    have hct := top_byte n hn
    rw [← hc] at hct
    have hcn : (UInt8.ofNat (c.toNat % 128)).toNat = c.toNat % 128 := by rw [UInt8.toNat_ofNat']; omega
    apply List.ext_getElem
    · simp [leB_length]
    · intro j h1 h2
      rw [leB_length] at h2
      rw [List.getElem_set]
      have g : ∀ n : Nat, ∀ h : j < (leB n 32).length, (leB n 32)[j] = byteLE n j := by intro n h; simp [leB]
      rw [g (dcY n)]
      apply UInt8.toNat_inj.1
      by_cases hj : 31 = j
      · subst hj
        rw [if_pos rfl, hcn, byteLE_nat, show (256 : Nat) ^ 31 = 452312848583266388373324160190187140051835877600158453279131187530910662656 from by decide, hct]
        unfold dcY
        omega
      · rw [if_neg hj, g n, byteLE_nat, byteLE_nat]
        unfold dcY
        have hd : ∃ k, 57896044618658097711785492504343953926634992332820282019728792003956564819968 = 256 ^ j * (256 * k) := ⟨2 ^ (247 - 8 * j), by
          rw [show (256 : Nat) = 2 ^ 8 by decide, ← Nat.pow_mul, ← Nat.pow_add, ← Nat.pow_add, show 8 * j + (8 + (247 - 8 * j)) = 255 by omega]⟩
        obtain ⟨k, hk⟩ := hd
        rw [hk, Nat.mod_mul_right_div_self, Nat.mod_mul_right_mod]
  unfold bA at h ⊢
  rw [← hrow, List.map_set]
  have e3 : cv (UInt8.ofNat (c.toNat % 128)) = .int .u8 ((c.toNat % 128 : Nat) : Int) := by
    show Value.int .u8 (C8 _) = _
    unfold C8
    rw [UInt8.toNat_ofNat', Nat.mod_eq_of_lt (by omega)]
  rw [e3]
  exact row_store h 31 _
end Go.Proofs.YtemdlpcljjdfjaaDoor
/- curve.Decode: the walk (gendec.py). -/
namespace Go.Proofs.YtemdlpcljjdfjaaDoor
open Go.RowKit
theorem Gl.keep {w w' : World} (h : Gl w) (hb : Below w.heap.size w w') : Gl w' := by
  obtain ⟨t0, f0, e0⟩ := h.g0
  obtain ⟨t1, f1, e1⟩ := h.g1
  obtain ⟨t3, f3, e3⟩ := h.g3
  obtain ⟨t4, f4, e4⟩ := h.g4
  obtain ⟨t5, f5, e5⟩ := h.g5
  exact ⟨⟨t0, f0, row_keep' e0 hb⟩, ⟨t1, f1, row_keep' e1 hb⟩, ⟨t3, f3, row_keep' e3 hb⟩, ⟨t4, f4, row_keep' e4 hb⟩, ⟨t5, f5, row_keep' e5 hb⟩⟩
theorem builtP (x y z t : Nat) : Tryd.prog.built 44 [(0, .agg (num4A x)), (1, .agg (num4A y)), (2, .agg (num4A z)), (3, .agg (num4A t))] = some (pA ⟨x, y, z, t⟩) := builtPt x y z t
theorem dcY_lt (n : Nat) : dcY n < 57896044618658097711785492504343953926634992332820282019728792003956564819968 := Nat.mod_lt _ (by decide)
theorem ofBytesA (m : Nat) (hm : m < 57896044618658097711785492504343953926634992332820282019728792003956564819968) (w : World) (hG : Gl w) :
    Calls Tryd.prog 68 #[.agg (bA m)] w fun e w' => e = .returned (.tuple #[.agg (num4A (ofbV m)), .bool (ofbB m)]) ∧ Below w.heap.size w w' := by
  obtain ⟨T, fr, e⟩ := hG.g3
  have c := feOfBytes (leB m 32) (leB_length _ _) T fr w e
  rw [valLE_leB m (by omega)] at c
  exact c
theorem xOfA (y : Nat) (odd : Bool) (hy : y < P) (w : World) (hG : Gl w) :
    Calls Tryd.prog 69 #[.agg (num4A y), .bool odd] w fun e w' => e = .returned (.tuple #[.agg (num4A (xofV y odd)), .bool (xofB y odd)]) ∧ Below w.heap.size w w' := xOf_any y odd hy w hG
theorem xofV_lt (y : Nat) (odd : Bool) : xofV y odd < P := by
  unfold xofV; split
  · unfold xsN; split
    · exact sP_lt _ _
    · exact rootV_lt _ _
  · exact P_pos
def dcB (n : Nat) : Bool := ofbB (dcY n) && xofB (ofbV (dcY n)) (dcO n)
def dcP (n : Nat) : Pt := if dcB n = true then ptOf (xofV (ofbV (dcY n)) (dcO n)) (ofbV (dcY n)) else p0
section
attribute [local irreducible] num4A nL pA bA
set_option maxRecDepth 100000 in
set_option maxHeartbeats 4000000 in
theorem decodeA (n : Nat) (hn : n < 115792089237316195423570985008687907853269984665640564039457584007913129639936) (w : World) (hG : Gl w) :
    Calls Tryd.prog 42 #[.agg (bA n)] w fun e w' => e = .returned (.tuple #[.agg (pA (dcP n)), .bool (dcB n)]) ∧ Below w.heap.size w w' := by
  have hz := zeroE
  have hzp := zeroP
  have HGl := hide hG
  have Hn := hide hn
  obtain ⟨TT, frr, hg1⟩ := hG.g1
  obtain ⟨o1, Eo1⟩ : ∃ o : Nat, Hid (o = 1) := ⟨1, hide rfl⟩
  rw [← Eo1.out] at hg1
  have HG1 := hide hg1
  have lG := lt_row hg1
  clear hn hG hg1
  go_enter Tryd.func42, Tryd.ntmps42
  go_upto_region 1 with fail
  obtain ⟨W0, hW0⟩ : ∃ W, W = (w.alloc (.cells (bA n) 48)).alloc (.cells (pA p0) 44) := ⟨_, rfl⟩
  have RC : Hid (W0.heap[w.heap.size]? = some (.cells (bA n) 48 (0, 0))) := by rw [hW0]; exact at2_0 _ _ _
  have RZ : Hid (W0.heap[w.heap.size + 1]? = some (.cells (pA p0) 44 (0, 0))) := by rw [hW0]; exact at2_1 _ _ _
  have BL : Hid (Below w.heap.size w W0) := by rw [hW0]; show Below _ _ _; go_grown
  rw [← hW0]
  clear hW0
  obtain ⟨c, Ec⟩ : ∃ c, Hid (c = byteLE n 31) := ⟨_, rfl⟩
  have c2 := cvs_get (l := leB n 32) (T := 48) (fr := (0, 0)) (by have e := RC.out; unfold bA at e; exact e) 31 (by rw [leB_length]; decide)
  rw [leB_getD n 32 31 (by decide), ← Ec.out, show cv c = .int .u8 (C8 c) from rfl] at c2
  have f2 := frozen_of_row W0 w.heap.size 31 _ _ RC.out
  obtain ⟨od, Eod⟩ : ∃ b, Hid (b = dcO n) := ⟨_, rfl⟩
  have hand : (bits .and .u8 (C8 c) 128 != 0) = od := by
    rw [Eod.out, ← dcO_top n Hn.out, ← Ec.out]; exact and128 c.toNat c.toNat_lt
  obtain ⟨v, Ev⟩ : ∃ v : Int, Hid (v = ((c.toNat % 128 : Nat) : Int)) := ⟨_, rfl⟩
  have hann : bits .andNot .u8 (C8 c) 128 = v := by rw [Ev.out]; exact andNot128 c.toNat c.toNat_lt
  have RC2 : Hid ((W0.setCell ⟨w.heap.size, 31, none⟩ (.int .u8 v)).heap[w.heap.size]? = some (.cells (bA (dcY n)) 48 (0, 0))) := by rw [Ev.out]; exact clear_row Hn.out Ec.out RC.out
  have RZ2 : Hid ((W0.setCell ⟨w.heap.size, 31, none⟩ (.int .u8 v)).heap[w.heap.size + 1]? = some (.cells (pA p0) 44 (0, 0))) := far_row _ _ RZ.out (by omega)
  have BL2 : Hid (Below w.heap.size w (W0.setCell ⟨w.heap.size, 31, none⟩ (.int .u8 v))) := BL.out.setCell (Nat.le_refl _) _
  go_upto_region 3 with fail
  obtain ⟨WV, hWV⟩ : ∃ W, W = W0.setCell ⟨w.heap.size, 31, none⟩ (.int .u8 v) := ⟨_, rfl⟩
  rw [← hWV] at RC2 RZ2 BL2 ⊢
  clear hWV c2 f2 hand hann RC RZ BL
  have RC := RC2
  have RZ := RZ2
  have BL := BL2
  clear RC2 RZ2 BL2
  obtain ⟨m, Em⟩ : ∃ m, Hid (m = dcY n) := ⟨_, rfl⟩
  rw [← Em.out] at RC
  have Hm : Hid (m < 57896044618658097711785492504343953926634992332820282019728792003956564819968) := by rw [Em.out]; exact dcY_lt n
  have RG : Hid (WV.heap[2]? = some (.cells (num4A o1) TT frr)) := row_below HG1.out BL.out lG
  clear HG1
  go_wp2_with (first | (refine wpList_load_row (by rfl) 48 (.tmp 1) (by rfl) (w.heap.size) (by rfl) 48 (bA m) (0, 0) _ RC.out underCode rfl (bA_size _) ?_))
  refine (ofBytesA m Hm.out _ (HGl.out.keep BL.out)).mono ?_
  rintro e W1 ⟨rfl, hB1⟩
  have RC := hide (row_keep' RC.out hB1)
  have RZ := hide (row_keep' RZ.out hB1)
  have RG := hide (row_keep' RG.out hB1)
  have BL : Hid (Below w.heap.size w W1) := BL.out.trans (hB1.mono BL.out.size)
  clear hB1
  obtain ⟨y, Ey⟩ : ∃ y, Hid (y = ofbV m) := ⟨_, rfl⟩
  have Hy : Hid (y < P) := by rw [Ey.out]; exact ofbV_lt _
  obtain ⟨yb, Eyb⟩ : ∃ b, Hid (b = ofbB m) := ⟨_, rfl⟩
  rw [← Ey.out, ← Eyb.out]
  go_upto_region 4 with (first | (refine wpList_store_row (by rfl) 42 (.tmp 5) (.tmp 19) (by rfl) W1.heap.size (num4A y) (by rfl) (by rfl) 42 _ (heap_alloc_new _ _) (feSize _) (n4_old _ _) (num4A_all _) ?_))
  obtain ⟨gy, hgy⟩ : ∃ q, q = W1.heap.size := ⟨_, rfl⟩
  obtain ⟨W2, hW2⟩ : ∃ W, W = (W1.alloc (.cells (num4A 0) 42)).setRow W1.heap.size (num4A y) := ⟨_, rfl⟩
  have lRCgy : w.heap.size < gy := by rw [hgy]; exact lt_row RC.out
  have lRZgy : w.heap.size + 1 < gy := by rw [hgy]; exact lt_row RZ.out
  have lRGgy : 2 < gy := by rw [hgy]; exact lt_row RG.out
  have RC' : Hid (W2.heap[w.heap.size]? = some (.cells (bA m) 48 (0, 0))) := by rw [hW2]; exact (setRow_other _ _ _ _ (by omega)).trans ((heap_alloc_old _ _ (by omega)).trans RC.out)
  have RZ' : Hid (W2.heap[w.heap.size + 1]? = some (.cells (pA p0) 44 (0, 0))) := by rw [hW2]; exact (setRow_other _ _ _ _ (by omega)).trans ((heap_alloc_old _ _ (by omega)).trans RZ.out)
  have RG' : Hid (W2.heap[2]? = some (.cells (num4A o1) TT frr)) := by rw [hW2]; exact (setRow_other _ _ _ _ (by omega)).trans ((heap_alloc_old _ _ (by omega)).trans RG.out)
  have RY : Hid (W2.heap[gy]? = some (.cells (num4A y) 42 (0, 0))) := by rw [hW2, hgy]; exact setRow_heap _ _ _ _ _ _ (heap_alloc_new _ _)
  have BL' : Hid (Below w.heap.size w W2) := by rw [hW2]; exact below_setRow (BL.out.alloc BL.out.size _) BL.out.size _
  rw [← hW2, ← hgy]
  clear hW2 hgy BL RC RZ RG
  have RC := RC'
  have RZ := RZ'
  have RG := RG'
  have BL := BL'
  clear RC' RZ' RG' BL'
  cases yb
  case false =>
    have HB : Hid (dcB n = false) := by show _ = _; unfold dcB; rw [← Em.out, ← Eyb.out]; rfl
    go_wp2_with (first | (refine wpList_store_row (by rfl) 44 (.tmp 2) (.tmp 23) (by rfl) (w.heap.size + 1) (pA p0) (by rfl) (by rfl) 44 _ RZ.out (pA_size _) (pA_old _ _) (pA_all _) ?_))
    refine bodyPost_ret (v := .tuple #[.agg (pA p0), .bool false]) (results_cell_tmp_row Tryd.results42 _ _ (w.heap.size + 1) 44 (pA p0) (0, 0) _ (by rfl) (setRow_heap _ _ _ _ _ _ RZ.out) Tryd.underlying44 rfl (pA_size _)) rfl ⟨?_, below_setRow BL.out (by omega) _⟩
    unfold dcP
    rw [HB.out, if_neg (by decide)]
  case true =>
  go_wp2_with (first | (refine wpList_load_row (by rfl) 42 (.tmp 5) (by rfl) (gy) (by rfl) 42 (num4A y) (0, 0) _ RY.out under33 rfl (feSize _) ?_))
  refine (xOfA y od Hy.out _ (HGl.out.keep BL.out)).mono ?_
  rintro e W3 ⟨rfl, hB3⟩
  have RC := hide (row_keep' RC.out hB3)
  have RZ := hide (row_keep' RZ.out hB3)
  have RG := hide (row_keep' RG.out hB3)
  have RY := hide (row_keep' RY.out hB3)
  have BL : Hid (Below w.heap.size w W3) := BL.out.trans (hB3.mono BL.out.size)
  clear hB3
  obtain ⟨x, Ex⟩ : ∃ x, Hid (x = xofV y od) := ⟨_, rfl⟩
  have Hx : Hid (x < P) := by rw [Ex.out]; exact xofV_lt _ _
  obtain ⟨xb, Exb⟩ : ∃ b, Hid (b = xofB y od) := ⟨_, rfl⟩
  rw [← Ex.out, ← Exb.out]
  go_upto_region 7 with (first | (refine wpList_store_row (by rfl) 42 (.tmp 7) (.tmp 28) (by rfl) W3.heap.size (num4A x) (by rfl) (by rfl) 42 _ (heap_alloc_new _ _) (feSize _) (n4_old _ _) (num4A_all _) ?_))
  obtain ⟨gx, hgx⟩ : ∃ q, q = W3.heap.size := ⟨_, rfl⟩
  obtain ⟨W4, hW4⟩ : ∃ W, W = (W3.alloc (.cells (num4A 0) 42)).setRow W3.heap.size (num4A x) := ⟨_, rfl⟩
  have lRCgx : w.heap.size < gx := by rw [hgx]; exact lt_row RC.out
  have lRZgx : w.heap.size + 1 < gx := by rw [hgx]; exact lt_row RZ.out
  have lRGgx : 2 < gx := by rw [hgx]; exact lt_row RG.out
  have lRYgx : gy < gx := by rw [hgx]; exact lt_row RY.out
  have RC' : Hid (W4.heap[w.heap.size]? = some (.cells (bA m) 48 (0, 0))) := by rw [hW4]; exact (setRow_other _ _ _ _ (by omega)).trans ((heap_alloc_old _ _ (by omega)).trans RC.out)
  have RZ' : Hid (W4.heap[w.heap.size + 1]? = some (.cells (pA p0) 44 (0, 0))) := by rw [hW4]; exact (setRow_other _ _ _ _ (by omega)).trans ((heap_alloc_old _ _ (by omega)).trans RZ.out)
  have RG' : Hid (W4.heap[2]? = some (.cells (num4A o1) TT frr)) := by rw [hW4]; exact (setRow_other _ _ _ _ (by omega)).trans ((heap_alloc_old _ _ (by omega)).trans RG.out)
  have RY' : Hid (W4.heap[gy]? = some (.cells (num4A y) 42 (0, 0))) := by rw [hW4]; exact (setRow_other _ _ _ _ (by omega)).trans ((heap_alloc_old _ _ (by omega)).trans RY.out)
  have RX : Hid (W4.heap[gx]? = some (.cells (num4A x) 42 (0, 0))) := by rw [hW4, hgx]; exact setRow_heap _ _ _ _ _ _ (heap_alloc_new _ _)
  have BL' : Hid (Below w.heap.size w W4) := by rw [hW4]; exact below_setRow (BL.out.alloc BL.out.size _) BL.out.size _
  rw [← hW4, ← hgx]
  clear hW4 hgx BL RC RZ RG RY
  have RC := RC'
  have RZ := RZ'
  have RG := RG'
  have RY := RY'
  have BL := BL'
  clear RC' RZ' RG' RY' BL'
  cases xb
  case false =>
    have HB : Hid (dcB n = false) := by show _ = _; unfold dcB; rw [← Em.out, ← Eyb.out, ← Ey.out, ← Eod.out, ← Exb.out]; rfl
    go_wp2_with (first | (refine wpList_store_row (by rfl) 44 (.tmp 2) (.tmp 32) (by rfl) (w.heap.size + 1) (pA p0) (by rfl) (by rfl) 44 _ RZ.out (pA_size _) (pA_old _ _) (pA_all _) ?_))
    refine bodyPost_ret (v := .tuple #[.agg (pA p0), .bool false]) (results_cell_tmp_row Tryd.results42 _ _ (w.heap.size + 1) 44 (pA p0) (0, 0) _ (by rfl) (setRow_heap _ _ _ _ _ _ RZ.out) Tryd.underlying44 rfl (pA_size _)) rfl ⟨?_, below_setRow BL.out (by omega) _⟩
    unfold dcP
    rw [HB.out, if_neg (by decide)]
  case true =>
  have HB : Hid (dcB n = true) := by show _ = _; unfold dcB; rw [← Em.out, ← Eyb.out, ← Ey.out, ← Eod.out, ← Exb.out]; rfl
  go_wp2_with fail
  refine wp_region_held_drew (S := fun w' => w'.rangeAt (gx) 0 (nL x) ∧ w'.rangeAt (gy) 0 (nL y) ∧ w'.rangeAt (2) 0 (nL o1)) (by kernel_rfl) (by exact ⟨rangeN RX.out, rangeN RY.out, rangeN RG.out⟩) (fun hHeld => ?_)
  obtain ⟨V1, hV1⟩ : ∃ V, V = W4.drew := ⟨_, rfl⟩
  rw [← hV1] at hHeld ⊢
  have KV1 : Hid (Below W4.heap.size W4 V1) := by rw [hV1]; exact (Below.refl _ _).drew
  clear hV1
  refine wpAnyH_take (i := 0) (oi := { dst := some 33, op := Go.Op.load 42 (Go.Operand.tmp 7), type := 42, pos := "point.go:42", after := #[], guard := none }) (v := .agg (num4A x)) rfl (by kernel_rfl) (by kernel_rfl) (by kernel_rfl) (fun _ _ _ h => h) (yldN (by rfl) _ rfl (gx) 0 x rfl (fun w h => h.1)) hHeld ?_
  simp only [Act.put, List.setIfInBounds_toArray, List.set_cons_zero, List.set_cons_succ]
  refine wpAnyH_take (i := 1) (oi := { dst := some 34, op := Go.Op.load 42 (Go.Operand.tmp 5), type := 42, pos := "point.go:42", after := #[], guard := none }) (v := .agg (num4A y)) rfl (by kernel_rfl) (by kernel_rfl) (by kernel_rfl) (fun _ _ _ h => h) (yldN (by rfl) _ rfl (gy) 0 y rfl (fun w h => h.2.1)) hHeld ?_
  simp only [Act.put, List.setIfInBounds_toArray, List.set_cons_zero, List.set_cons_succ]
  refine wpAnyH_take (i := 2) (oi := { dst := some 35, op := Go.Op.load 42 (Go.Operand.global 2), type := 42, pos := "point.go:42", after := #[], guard := none }) (v := .agg (num4A o1)) rfl (by kernel_rfl) (by kernel_rfl) (by kernel_rfl) (fun _ _ _ h => h) (yldN (by rfl) _ rfl (2) 0 o1 rfl (fun w h => h.2.2)) hHeld ?_
  simp only [Act.put, List.setIfInBounds_toArray, List.set_cons_zero, List.set_cons_succ]
  refine wpAnyH_take (i := 3) (oi := { dst := some 36, op := Go.Op.load 42 (Go.Operand.tmp 7), type := 42, pos := "point.go:42", after := #[], guard := none }) (v := .agg (num4A x)) rfl (by kernel_rfl) (by kernel_rfl) (by kernel_rfl) (fun _ _ _ h => h) (yldN (by rfl) _ rfl (gx) 0 x rfl (fun w h => h.1)) hHeld ?_
  simp only [Act.put, List.setIfInBounds_toArray, List.set_cons_zero, List.set_cons_succ]
  refine wpAnyH_take (i := 4) (oi := { dst := some 37, op := Go.Op.load 42 (Go.Operand.tmp 5), type := 42, pos := "point.go:42", after := #[], guard := none }) (v := .agg (num4A y)) rfl (by kernel_rfl) (by kernel_rfl) (by kernel_rfl) (fun _ _ _ h => h) (yldN (by rfl) _ rfl (gy) 0 y rfl (fun w h => h.2.1)) hHeld ?_
  simp only [Act.put, List.setIfInBounds_toArray, List.set_cons_zero, List.set_cons_succ]
  refine wpAnyH_ready (rs := [5]) (by kernel_rfl) (by simp) ?_
  refine AllReadyH.cons (o := { dst := some 38, op := Go.Op.call { callee := Go.Callee.value (Go.Operand.func 44), args := #[Go.Operand.tmp 36, Go.Operand.tmp 37], argTypes := #[42, 42] }, type := 42, pos := "point.go:42", after := #[{ on := 3, ground := Go.Ground.data }, { on := 4, ground := Go.Ground.data }], guard := none }) rfl (fun K hK => ?_) ?_
  · skip
    refine step_callTo (by rfl) _ _ (hrunTimes _ _ rfl (.agg (num4A x)) (.agg (num4A y)) rfl rfl V1) _ _ (feTimes x y Hx.out Hy.out V1) (fun V2 HBx => ?_)
    have KV2 : Hid (Below W4.heap.size W4 V2) := KV1.out.trans (HBx.mono KV1.out.size)
    clear HBx
    refine hK.out _ _ ?_ (fun hHeld => ?_)
    · exact ⟨range_below (rangeN RX.out) KV2.out (lt_row RX.out), range_below (rangeN RY.out) KV2.out (lt_row RY.out), range_below (rangeN RG.out) KV2.out (lt_row RG.out)⟩
    clear hK K
    try simp only [Act.put, List.setIfInBounds_toArray, List.set_cons_zero, List.set_cons_succ]
    refine wpAnyH_take (i := 6) (oi := { dst := some 39, op := Go.Op.build 44 #[(0, Go.Operand.tmp 33), (1, Go.Operand.tmp 34), (2, Go.Operand.tmp 35), (3, Go.Operand.tmp 38)], type := 44, pos := "point.go:42", after := #[{ on := 0, ground := Go.Ground.data }, { on := 1, ground := Go.Ground.data }, { on := 2, ground := Go.Ground.data }, { on := 5, ground := Go.Ground.data }], guard := none }) (v := .agg (pA ⟨x, y, o1, mP x y⟩)) rfl (by kernel_rfl) (by kernel_rfl) (by kernel_rfl) (fun _ _ _ h => h) (yld_build' (by rfl) _ _ rfl _ _ (by kernel_rfl) (builtP x y o1 (mP x y))) hHeld ?_
    simp only [Act.put, List.setIfInBounds_toArray, List.set_cons_zero, List.set_cons_succ]
    refine wpAnyH_ready (rs := [7]) (by kernel_rfl) (by simp) ?_
    refine AllReadyH.cons (o := { dst := none, op := Go.Op.store 44 (Go.Operand.tmp 2) (Go.Operand.tmp 39), type := 0, pos := "point.go:42", after := #[{ on := 6, ground := Go.Ground.data }, { on := 5, ground := Go.Ground.chain }, { on := 0, ground := Go.Ground.phase }, { on := 1, ground := Go.Ground.phase }, { on := 2, ground := Go.Ground.phase }, { on := 3, ground := Go.Ground.phase }, { on := 4, ground := Go.Ground.phase }, { on := 5, ground := Go.Ground.phase }, { on := 6, ground := Go.Ground.phase }], guard := none }) rfl (fun K hK => ?_) ?_
    · skip
      refine step_store_row _ (by rfl) 44 (.tmp 2) (.tmp 39) (by rfl) (w.heap.size + 1) (pA ⟨x, y, o1, mP x y⟩) (by rfl) (by rfl) 44 _ (hide (row_below RZ.out KV2.out (lt_row RZ.out))).out (pA_size _) (pA_old _ _) (pA_all _) ?_
      rw [put_none']
      refine hK.out _ _ ?_ (fun hHeld => ?_)
      · exact ⟨range_set (range_below (rangeN RX.out) KV2.out (lt_row RX.out)) (by omega), range_set (range_below (rangeN RY.out) KV2.out (lt_row RY.out)) (by omega), range_set (range_below (rangeN RG.out) KV2.out (lt_row RG.out)) (by omega)⟩
      clear hK K
      try simp only [Act.put, List.setIfInBounds_toArray, List.set_cons_zero, List.set_cons_succ]
      refine wpAnyH_take (i := 8) (oi := { dst := some 3, op := Go.Op.assign (Go.Operand.const (Go.Value.bool true)), type := 4, pos := "point.go:42", after := #[{ on := 7, ground := Go.Ground.chain }, { on := 0, ground := Go.Ground.phase }, { on := 1, ground := Go.Ground.phase }, { on := 2, ground := Go.Ground.phase }, { on := 3, ground := Go.Ground.phase }, { on := 4, ground := Go.Ground.phase }, { on := 5, ground := Go.Ground.phase }, { on := 6, ground := Go.Ground.phase }, { on := 7, ground := Go.Ground.phase }], guard := none }) (v := .bool true) rfl (by kernel_rfl) (by kernel_rfl) (by kernel_rfl) (fun _ _ _ h => h) (Or.inl ⟨by rfl, fun w _ => by go_simp⟩) hHeld ?_
      simp only [Act.put, List.setIfInBounds_toArray, List.set_cons_zero, List.set_cons_succ]
      refine wpAnyH_done (by kernel_rfl) ?_ _
      go_wp2_with fail
      have RZ9 := hide (row_below RZ.out KV2.out (lt_row RZ.out))
      have BL9 := hide (BL.out.trans (KV2.out.mono BL.out.size))
      refine bodyPost_ret (v := .tuple #[.agg (pA ⟨x, y, o1, mP x y⟩), .bool true]) (results_cell_tmp_row Tryd.results42 _ _ (w.heap.size + 1) 44 (pA ⟨x, y, o1, mP x y⟩) (0, 0) _ (by rfl) (setRow_heap _ _ _ _ _ _ RZ9.out) Tryd.underlying44 rfl (pA_size _)) rfl ⟨?_, below_setRow BL9.out (by omega) _⟩
      unfold dcP; rw [HB.out, if_pos rfl, ← Em.out, ← Ey.out, ← Eod.out, ← Ex.out, Eo1.out]; rfl
    exact AllReadyH.nil
  exact AllReadyH.nil
end
end Go.Proofs.YtemdlpcljjdfjaaDoor
