import Derived.Test.YtccgfabojbjmjaaGreatDoorPx11
import Derived.Test.YtccgfabojbjmjaaGreatDoorPx15
import Derived.Deep.RegionWith
namespace Go.Proofs.YtccgfabojbjmjaaGreatDoor
open Go.RowKit
def dN : Nat := 37095705934669439343138083508754565189542113879843219016388785533085940283555
def uN (y : Nat) : Nat := sP (mP y y) 1
def vN (y : Nat) : Nat := aP (mP (mP y y) dN) 1
def xsN (y : Nat) (odd : Bool) : Nat := if decide (rootV (uN y) (vN y) % 2 = 1) != odd then sP 0 (rootV (uN y) (vN y)) else rootV (uN y) (vN y)
def xofV (y : Nat) (odd : Bool) : Nat := if rootB (uN y) (vN y) = true then xsN y odd else 0
def xofB (y : Nat) (odd : Bool) : Bool := if rootB (uN y) (vN y) = true then decide (xsN y odd % 2 = 1) == odd else false
section
variable {P : Program} (w : World)
theorem step_store_row {ops : Array Oper} {o : Oper} {a : Act} {K : Act → World → Prop} {Q : Exit → Act → World → Prop} {E : Prop} (hgd : o.guard = none) (ty : TypeId) (x y : Operand) (ho : o.op = .store ty x y)
  (g : Nat) (cells : Array Value) (hx : a.eval x = .pointer (some ⟨g, 0, none⟩)) (hy : a.eval y = .agg cells)
  (t : TypeId) (old : Array Value) (hg : w.heap[g]? = some (.cells old t (0, 0))) (hi : (P.info? ty).map (·.size) = some cells.size)
  (hold : old.size = cells.size) (h1 : cells.all (·.oneCell') = true) (h : K (a.put o.dst undef) (w.setRow g cells)) :
  if Region.wanted o (yielded ops a.tmps) = true then Oper.wp P o a w K Q else E := by
 rw [if_pos (by simp [Region.wanted, hgd])]
 exact wp_store_row ty x y ho g cells hx hy t old hg hi hold h1 h
end
theorem fold4 (n : Nat) : (Value.agg #[nv (wd n 0), nv (wd n 1), nv (wd n 2), nv (wd n 3)]) = .agg (num4A n) := rfl
theorem one_lt : 1 < P := by decide
theorem dN_lt : dN < P := by decide
structure Gl (w : World) : Prop where
 g0 : ∃ T fr, w.heap[5]? = some (.cells (num4A (mP 2 dN)) T fr)
 g1 : ∃ T fr, w.heap[8]? = some (.cells (num4A 1) T fr)
 g3 : ∃ T fr, w.heap[10]? = some (.cells (num4A P) T fr)
 g4 : ∃ T fr, w.heap[11]? = some (.cells (num4A dN) T fr)
 g5 : ∃ T fr, w.heap[12]? = some (.cells (num4A rmN) T fr)
section
attribute [local go_sem] fold4
set_option maxRecDepth 100000 in
set_option maxHeartbeats 2000000 in
theorem xOf_any (y : Nat) (odd : Bool) (hy : y < P) (w : World) (hG : Gl w) :
  Calls Tryz.prog 150 #[fe y, .bool odd] w fun e w' => e = .returned (.tuple #[fe (xofV y odd), .bool (xofB y odd)]) ∧ Below w.heap.size w w' := by
 have Hy := hide hy
 clear hy
 obtain ⟨T1, f1, hg1⟩ := hG.g1
 obtain ⟨T4, f4, hg4⟩ := hG.g4
 obtain ⟨T5, f5, hg5⟩ := hG.g5
 have HG1 := hide hg1
 have HG4 := hide hg4
 have HG5 := hide hg5
 have l5 : Hid (12 < w.heap.size) := lt_of_row hg5
 clear hg1 hg4 hg5 hG
 go_enter Tryz.func150, Tryz.ntmps150
 go_wp2_with (first | (refine wpList_load_row (by rfl) 80 (.tmp 2) (by rfl) w.heap.size (by rfl) 80 (num4A y) (0, 0) _ (at2_0 _ _ _) under33 rfl (feSize _) ?_))
 refine (feSquare y Hy.out _).mono ?_
 rintro e Wa ⟨rfl, hB⟩
 have hz := hB.size
 simp only [World.size_alloc] at hB hz
 have RY0 : Hid (Wa.heap[w.heap.size + 1]? = some (.cells zero4 80 (0, 0))) := (hB.block _ (by omega)).trans (at2_1 _ _ _)
 have BLa : Hid (Below w.heap.size w Wa) := (((Below.refl _ w).alloc (Nat.le_refl _) _).alloc (by simp) _).trans (hB.mono (by omega))
 clear hB
 obtain ⟨sqy, HS⟩ : ∃ s, Hid (s = mP y y) := ⟨_, rfl⟩
 have Hs : Hid (sqy < P) := by rw [HS.out]; exact mP_lt _ _
 rw [← HS.out]
 go_wp2_with (first | (refine wpList_store_row (by rfl) 80 (.tmp 6) (.tmp 10) (by rfl) Wa.heap.size (num4A sqy) (by rfl) (by rfl) 80 _ (heap_alloc_new _ _) (feSize _) rfl (num4A_all _) ?_))
 obtain ⟨W0, hW0⟩ : ∃ W0, W0 = (Wa.alloc (.cells zero4 80)).setRow Wa.heap.size (num4A sqy) := ⟨_, rfl⟩
 rw [← hW0]
 obtain ⟨ga, hga⟩ : ∃ ga, ga = Wa.heap.size := ⟨_, rfl⟩
 rw [← hga]
 try rw [put_none']
 have RS : Hid (W0.heap[ga]? = some (.cells (num4A sqy) 80 (0, 0))) := by rw [hW0, hga]; exact setRow_heap _ _ _ _ _ _ (heap_alloc_new _ _)
 have RZ : Hid (W0.heap[w.heap.size + 1]? = some (.cells zero4 80 (0, 0))) := by rw [hW0]; exact (setRow_other _ _ _ _ (by omega)).trans ((heap_alloc_old _ _ (by omega)).trans RY0.out)
 have BL0 : Hid (Below w.heap.size w W0) := by rw [hW0]; exact below_setRow (BLa.out.alloc BLa.out.size _) BLa.out.size _
 have Z0 : Hid (w.heap.size + 1 < W0.heap.size) := lt_of_row RZ.out
 have RG1 := hide (row_below HG1.out BL0.out (by have := l5.out; omega))
 have RG4 := hide (row_below HG4.out BL0.out (by have := l5.out; omega))
 obtain ⟨o1, E1⟩ : ∃ o1, Hid (o1 = 1) := ⟨_, hide rfl⟩
 obtain ⟨dd, Ed⟩ : ∃ dd, Hid (dd = dN) := ⟨_, hide rfl⟩
 have h1P : Hid (o1 < P) := by rw [E1.out]; exact one_lt
 have hdP : Hid (dd < P) := by rw [Ed.out]; exact dN_lt
 have RH1 : Hid (W0.heap[8]? = some (.cells (num4A o1) T1 f1)) := by rw [E1.out]; exact RG1
 have RH4 : Hid (W0.heap[11]? = some (.cells (num4A dd) T4 f4)) := by rw [Ed.out]; exact RG4
 clear RG1 RG4
 have RG5 := hide (row_below HG5.out BL0.out l5.out)
 have NA : Hid (w.heap.size + 1 < ga) := by show _ < _; omega
 clear hW0 hga RY0 BLa hz HG1 HG4 HG5
 go_upto_region 2 with fail
 go_cut [7, 8] from 11 to 22 (fun s x8 wx => ∃ g, s = .pointer (some ⟨g, 0, none⟩) ∧ x8 = .bool (rootB (sP sqy o1) (aP (mP sqy dd) o1)) ∧ Hid (W0.heap.size ≤ g) ∧ Hid (wx.heap[g]? = some (.cells (num4A (rootV (sP sqy o1) (aP (mP sqy dd) o1))) 80 (0, 0))) ∧ Hid (Below W0.heap.size W0 wx))
 case first =>
  obtain ⟨c_sy0, c_sy1, c_sy2, c_sy3⟩ := c4_of RS.out
  obtain ⟨c_one0, c_one1, c_one2, c_one3⟩ := c4_of RH1.out
  obtain ⟨c_dd0, c_dd1, c_dd2, c_dd3⟩ := c4_of RH4.out
  go_region_held3 (fun w' => C4 w' (ga) (sqy) ∧ C4 w' (8) (o1) ∧ C4 w' (11) (dd))
   (first | exact ⟨c4_set (c4_alloc (c4_below (c4_of RS.out) K0_3.out (lt_of_row RS.out)) _) (by have h0 := lt_of_row RS.out; have h1 := K0_0.out.size; have h2 := K0_1.out.size; have h3 := K0_2.out.size; have h4 := K0_3.out.size; have h9 := Z0.out; omega), c4_set (c4_alloc (c4_below (c4_of RH1.out) K0_3.out (lt_of_row RH1.out)) _) (by have h0 := lt_of_row RH1.out; have h1 := K0_0.out.size; have h2 := K0_1.out.size; have h3 := K0_2.out.size; have h4 := K0_3.out.size; have h9 := Z0.out; omega), c4_set (c4_alloc (c4_below (c4_of RH4.out) K0_3.out (lt_of_row RH4.out)) _) (by have h0 := lt_of_row RH4.out; have h1 := K0_0.out.size; have h2 := K0_1.out.size; have h3 := K0_2.out.size; have h4 := K0_3.out.size; have h9 := Z0.out; omega)⟩ | exact ⟨c4_set (c4_below (c4_of RS.out) K0_3.out (lt_of_row RS.out)) (by have h0 := lt_of_row RS.out; have h1 := K0_0.out.size; have h2 := K0_1.out.size; have h3 := K0_2.out.size; have h4 := K0_3.out.size; have h9 := Z0.out; omega), c4_set (c4_below (c4_of RH1.out) K0_3.out (lt_of_row RH1.out)) (by have h0 := lt_of_row RH1.out; have h1 := K0_0.out.size; have h2 := K0_1.out.size; have h3 := K0_2.out.size; have h4 := K0_3.out.size; have h9 := Z0.out; omega), c4_set (c4_below (c4_of RH4.out) K0_3.out (lt_of_row RH4.out)) (by have h0 := lt_of_row RH4.out; have h1 := K0_0.out.size; have h2 := K0_1.out.size; have h3 := K0_2.out.size; have h4 := K0_3.out.size; have h9 := Z0.out; omega)⟩ | exact ⟨(c4_below (c4_of RS.out) K0_3.out (lt_of_row RS.out)), (c4_below (c4_of RH1.out) K0_3.out (lt_of_row RH1.out)), (c4_below (c4_of RH4.out) K0_3.out (lt_of_row RH4.out))⟩ | exact ⟨c4_alloc (c4_below (c4_of RS.out) K0_3.out (lt_of_row RS.out)) _, c4_alloc (c4_below (c4_of RH1.out) K0_3.out (lt_of_row RH1.out)) _, c4_alloc (c4_below (c4_of RH4.out) K0_3.out (lt_of_row RH4.out)) _⟩ | exact ⟨(c4_below (c4_of RS.out) K0_2.out (lt_of_row RS.out)), (c4_below (c4_of RH1.out) K0_2.out (lt_of_row RH1.out)), (c4_below (c4_of RH4.out) K0_2.out (lt_of_row RH4.out))⟩ | exact ⟨c4_alloc (c4_below (c4_of RS.out) K0_2.out (lt_of_row RS.out)) _, c4_alloc (c4_below (c4_of RH1.out) K0_2.out (lt_of_row RH1.out)) _, c4_alloc (c4_below (c4_of RH4.out) K0_2.out (lt_of_row RH4.out)) _⟩ | exact ⟨(c4_below (c4_of RS.out) K0_1.out (lt_of_row RS.out)), (c4_below (c4_of RH1.out) K0_1.out (lt_of_row RH1.out)), (c4_below (c4_of RH4.out) K0_1.out (lt_of_row RH4.out))⟩ | exact ⟨c4_alloc (c4_below (c4_of RS.out) K0_1.out (lt_of_row RS.out)) _, c4_alloc (c4_below (c4_of RH1.out) K0_1.out (lt_of_row RH1.out)) _, c4_alloc (c4_below (c4_of RH4.out) K0_1.out (lt_of_row RH4.out)) _⟩ | exact ⟨(c4_below (c4_of RS.out) K0_0.out (lt_of_row RS.out)), (c4_below (c4_of RH1.out) K0_0.out (lt_of_row RH1.out)), (c4_below (c4_of RH4.out) K0_0.out (lt_of_row RH4.out))⟩ | exact ⟨c4_alloc (c4_below (c4_of RS.out) K0_0.out (lt_of_row RS.out)) _, c4_alloc (c4_below (c4_of RH1.out) K0_0.out (lt_of_row RH1.out)) _, c4_alloc (c4_below (c4_of RH4.out) K0_0.out (lt_of_row RH4.out)) _⟩ | exact ⟨c4_of RS.out, c4_of RH1.out, c4_of RH4.out⟩ | exact ⟨c4_alloc (w := W0.drew) (c4_of RS.out) _, c4_alloc (w := W0.drew) (c4_of RH1.out) _, c4_alloc (w := W0.drew) (c4_of RH4.out) _⟩ | go_keep)
   (first
    | (go_at_call 119; (fail_if_success (have zz := K0_0)); refine (feMinus sqy o1 Hs.out h1P.out _).mono ?_; rintro e V0_0 ⟨rfl, HB⟩; have K0_0 : Hid (Below W0.heap.size W0 V0_0) := (by first | exact hide (undrew HB) | exact hide (Below.trans (Below.alloc (Below.drew (Below.refl _ _)) (Nat.le_refl _) _) (HB.mono (by simp)))); (first | (have ZZ := hide (row_keep (heap_alloc_new _ (.cells zero4 80)) HB)) | (have ZZ := hide (row_keep (w := (W0.alloc (.cells zero4 80)).drew) (heap_alloc_new W0 (.cells zero4 80)) HB)) | (have ZZ := hide (row_keep ZZ.out HB)) | skip); clear HB)
    | (go_at_call 93; (fail_if_success (have zz := K0_1)); (have zz := K0_0; clear zz); refine (feTimes sqy dd Hs.out hdP.out _).mono ?_; rintro e V0_1 ⟨rfl, HB⟩; have K0_1 : Hid (Below W0.heap.size W0 V0_1) := (by first | exact hide (K0_0.out.trans (HB.mono K0_0.out.size)) | exact hide ((K0_0.out.alloc K0_0.out.size _).trans (HB.mono (by have := K0_0.out.size; simp; omega)))); (first | (have ZZ := hide (row_keep (heap_alloc_new _ (.cells zero4 80)) HB)) | (have ZZ := hide (row_keep (w := (W0.alloc (.cells zero4 80)).drew) (heap_alloc_new W0 (.cells zero4 80)) HB)) | (have ZZ := hide (row_keep ZZ.out HB)) | skip); clear HB)
    | (go_at_call 120; (fail_if_success (have zz := K0_2)); (have zz := K0_1; clear zz); refine (fePlus (mP sqy dd) o1 (mP_lt _ _) h1P.out _).mono ?_; rintro e V0_2 ⟨rfl, HB⟩; have K0_2 : Hid (Below W0.heap.size W0 V0_2) := (by first | exact hide (K0_1.out.trans (HB.mono K0_1.out.size)) | exact hide ((K0_1.out.alloc K0_1.out.size _).trans (HB.mono (by have := K0_1.out.size; simp; omega)))); (first | (have ZZ := hide (row_keep (heap_alloc_new _ (.cells zero4 80)) HB)) | (have ZZ := hide (row_keep (w := (W0.alloc (.cells zero4 80)).drew) (heap_alloc_new W0 (.cells zero4 80)) HB)) | (have ZZ := hide (row_keep ZZ.out HB)) | skip); clear HB)
    | (go_at_call 162; (fail_if_success (have zz := K0_3)); (have zz := K0_2; clear zz); refine (feRoot (sP sqy o1) (aP (mP sqy dd) o1) (sP_lt _ _) (aP_lt _ _) T5 f5 _ ?_).mono ?_; (first | exact row_below RG5.out K0_2.out (lt_of_row RG5.out) | exact (heap_alloc_old _ _ (by have := K0_2.out.size; have := lt_of_row RG5.out; omega)).trans (row_below RG5.out K0_2.out (lt_of_row RG5.out))); rintro e V0_3 ⟨rfl, HB⟩; have K0_3 : Hid (Below W0.heap.size W0 V0_3) := (by first | exact hide (K0_2.out.trans (HB.mono K0_2.out.size)) | exact hide ((K0_2.out.alloc K0_2.out.size _).trans (HB.mono (by have := K0_2.out.size; simp; omega)))); (first | (have ZZ := hide (row_keep (heap_alloc_new _ (.cells zero4 80)) HB)) | (have ZZ := hide (row_keep (w := (W0.alloc (.cells zero4 80)).drew) (heap_alloc_new W0 (.cells zero4 80)) HB)) | (have ZZ := hide (row_keep ZZ.out HB)) | skip); clear HB; (first | (have hst := storeRow_run (P := Tryz.prog) (cs := num4A (rootV (sP sqy o1) (aP (mP sqy dd) o1))) ZZ.out rfl (num4A_all _)) | (have hst := storeRow_run (P := Tryz.prog) (w := V0_3.alloc (.cells zero4 80)) (cs := num4A (rootV (sP sqy o1) (aP (mP sqy dd) o1))) (heap_alloc_new _ _) rfl (num4A_all _))); have hs4 : (num4A (rootV (sP sqy o1) (aP (mP sqy dd) o1))).size = 4 := rfl))
  all_goals (
   clear c_sy0 c_sy1 c_sy2 c_sy3
   clear c_one0 c_one1 c_one2 c_one3
   clear c_dd0 c_dd1 c_dd2 c_dd3
   clear hst hs4
   go_wp2_with fail
   go_meet
   case rel => first | exact ⟨_, rfl, rfl, hide (by have h1 := K0_0.out.size; have h2 := K0_1.out.size; have h3 := K0_2.out.size; have h4 := K0_3.out.size; omega), hide (setRow_heap _ _ _ _ _ _ ZZ.out), hide (below_setRow K0_3.out (by have h1 := K0_0.out.size; have h2 := K0_1.out.size; have h3 := K0_2.out.size; have h4 := K0_3.out.size; omega) _)⟩ | exact ⟨_, rfl, rfl, hide (by have h1 := K0_0.out.size; have h2 := K0_1.out.size; have h3 := K0_2.out.size; have h4 := K0_3.out.size; omega), hide (setRow_heap _ _ _ _ _ _ (heap_alloc_new _ _)), hide (below_setRow (K0_3.out.alloc K0_3.out.size _) (by have h1 := K0_0.out.size; have h2 := K0_1.out.size; have h3 := K0_2.out.size; have h4 := K0_3.out.size; omega) _)⟩)
 case rest =>
 obtain ⟨g1, rfl, rfl, G1, Q1, X1⟩ := hcut
 obtain ⟨W1, hW1⟩ : ∃ W1, W1 = wc := ⟨_, rfl⟩
 subst hW1
 have BL1 : Hid (Below w.heap.size w W1) := BL0.out.trans (X1.out.mono BL0.out.size)
 have Z1 : Hid (w.heap.size + 1 < W1.heap.size) := by show _ < _; have := Z0.out; have := X1.out.size; omega
 replace RS := hide (row_below RS.out X1.out (lt_of_row RS.out))
 replace RH1 := hide (row_below RH1.out X1.out (lt_of_row RH1.out))
 replace RH4 := hide (row_below RH4.out X1.out (lt_of_row RH4.out))
 replace RZ := hide (row_below RZ.out X1.out Z0.out)
 have N1 : Hid (w.heap.size + 1 < g1) := by show _ < _; have := G1.out; have := Z0.out; omega
 clear X1 BL0 Z0 G1
 obtain ⟨r, Er⟩ : ∃ r, Hid (r = rootV (sP sqy o1) (aP (mP sqy dd) o1)) := ⟨_, rfl⟩
 obtain ⟨ok, Eo⟩ : ∃ ok, Hid (ok = rootB (sP sqy o1) (aP (mP sqy dd) o1)) := ⟨_, rfl⟩
 have Hr : Hid (r < P) := by rw [Er.out]; exact rootV_lt _ _
 rw [← Eo.out]
 rw [← Er.out] at Q1
 have ER : Hid (rootV (uN y) (vN y) = r ∧ rootB (uN y) (vN y) = ok) := by
  rw [HS.out, E1.out, Ed.out] at Er Eo
  exact ⟨Er.out.symm, Eo.out.symm⟩
 clear RS RH1 RH4 RG5 Er Eo
 cases ok with
 | false =>
  go_wp2_with (first
   | (refine wpList_store_row (by rfl) 80 (.tmp 4) (.tmp 25) (by rfl) (w.heap.size + 1) zero4 (by rfl) (by rfl) 80 _ RZ.out size33 rfl zero4_all ?_))
  refine bodyPost_ret (v := .tuple #[.agg zero4, .bool false]) (results_cell_tmp_row Tryz.results150 _ _ (w.heap.size + 1) 80 zero4 (0, 0) _ (by rfl) (setRow_heap _ _ _ _ _ _ RZ.out) under33 rfl size33) rfl ⟨?_, below_setRow BL1.out (by omega) _⟩
  have e1 : xofV y odd = 0 := by unfold xofV; rw [ER.out.2, if_neg (by decide)]
  have e2 : xofB y odd = false := by unfold xofB; rw [ER.out.2, if_neg (by decide)]
  rw [e1, e2]
  show Ending.returned (.tuple #[.agg zero4, .bool false]) = .returned (.tuple #[.agg (num4A 0), .bool false])
  rw [num4A_zero]
 | true =>
  go_wp2_with (first
   | (refine wpList_load_row (by rfl) 80 (.tmp 7) (by rfl) g1 (by rfl) 80 (num4A r) (0, 0) _ Q1.out under33 rfl (feSize _) ?_))
  refine (feIsOdd r _).mono ?_
  rintro e W2 ⟨rfl, hB2⟩
  have Q2 := hide (row_keep Q1.out hB2)
  have RZ2 := hide (row_keep RZ.out hB2)
  have BL2 : Hid (Below w.heap.size w W2) := BL1.out.trans (hB2.mono BL1.out.size)
  clear hB2 Q1 RZ BL1
  obtain ⟨x, Ex⟩ : ∃ x, Hid (x = xsN y odd) := ⟨_, rfl⟩
  have Hx : Hid (x < P) := by
   rw [Ex.out]; unfold xsN; rw [ER.out.1]; show _ < _; split
   · exact sP_lt _ _
   · exact Hr.out
  obtain ⟨bb, Hbb⟩ : ∃ bb, Hid (bb = (!(decide (r % 2 = 1) == odd))) := ⟨_, rfl⟩
  have EX : Hid (x = if bb = true then sP 0 r else r) := by rw [Ex.out, Hbb.out]; unfold xsN; rw [ER.out.1]; exact rfl
  go_upto_if 29 with fail
  rw [← Hbb.out]
  go_cut [] from 30 to 32 (fun wx => Hid (wx.heap[g1]? = some (.cells (num4A x) 80 (0, 0))) ∧ Hid (wx.heap[w.heap.size + 1]? = some (.cells zero4 80 (0, 0))) ∧ Hid (Below w.heap.size w wx))
  case first =>
   cases bb with
   | true =>
    go_wp2_with (first
     | (refine wpList_load_row (by rfl) 80 (.tmp 7) (by rfl) g1 (by rfl) 80 (num4A r) (0, 0) _ Q2.out under33 rfl (feSize _) ?_))
    refine (feMinus0 r Hr.out _).mono ?_
    rintro e W3 ⟨rfl, hB3⟩
    have ex : sP 0 r = x := EX.out.symm
    rw [ex]
    have Q3 := hide (row_keep Q2.out hB3)
    have RZ3 := hide (row_keep RZ2.out hB3)
    have BL3 : Hid (Below w.heap.size w W3) := BL2.out.trans (hB3.mono BL2.out.size)
    clear hB3 ex
    have ng : w.heap.size + 1 ≠ g1 := by have := N1.out; omega
    go_wp2_with (first
     | (refine wpList_store_row (by rfl) 80 (.tmp 7) (.tmp 32) (by rfl) g1 (num4A x) (by rfl) (by rfl) 80 _ Q3.out (feSize _) rfl (num4A_all _) ?_))
    try rw [put_none']
    go_meet
    case rel => exact ⟨hide (setRow_heap _ _ _ _ _ _ Q3.out), hide ((setRow_other _ _ _ _ ng).trans RZ3.out), hide (below_setRow BL3.out (by have := N1.out; omega) _)⟩
   | false =>
    have ex : r = x := EX.out.symm
    go_wp2_with fail
    go_meet
    case rel => exact ⟨by rw [← ex]; exact Q2, RZ2, BL2⟩
  case rest =>
  obtain ⟨Q3, RZ3, BL3⟩ := hcut
  obtain ⟨W3, hW3⟩ : ∃ W3, W3 = wc := ⟨_, rfl⟩
  subst hW3
  obtain ⟨c0, c1, c2, c3⟩ := c4_of Q3.out
  have ng : w.heap.size + 1 ≠ g1 := by have := N1.out; omega
  go_upto_region 7 with fail
  go_region_held3 (fun w' => C4 w' g1 x)
   (first | exact c4_set (c4_below (c4_of Q3.out) KK.out (lt_of_row Q3.out)) (Ne.symm ng) | exact c4_below (c4_of Q3.out) KK.out (lt_of_row Q3.out) | exact c4_of Q3.out | go_keep)
   (first
    | (go_at_call 95; refine (feIsOdd x _).mono ?_; rintro e VV ⟨rfl, HB⟩; have KK : Hid (Below W3.heap.size W3 VV) := hide (undrew HB); have RZV := hide (row_below RZ3.out KK.out (lt_of_row RZ3.out)); have hst := storeRow_run (P := Tryz.prog) (cs := num4A x) RZV.out rfl (num4A_all _); have hs4 : (num4A x).size = 4 := rfl; clear HB))
  all_goals (
   clear c0 c1 c2 c3 hst hs4
   have RZ4 := hide (row_below RZ3.out KK.out (lt_of_row RZ3.out))
   have BL4 : Hid (Below w.heap.size w VV) := BL3.out.trans (KK.out.mono BL3.out.size)
   go_wp2_with fail
   refine bodyPost_ret (v := .tuple #[fe x, .bool (decide (x % 2 = 1) == odd)]) (results_cell_tmp_row Tryz.results150 _ _ (w.heap.size + 1) 80 (num4A x) (0, 0) _ (by rfl) (setRow_heap _ _ _ _ _ _ RZ4.out) under33 rfl (feSize _)) rfl ⟨?_, below_setRow BL4.out (by omega) _⟩
   have e1 : xofV y odd = x := by unfold xofV; rw [ER.out.2, if_pos rfl, Ex.out]
   have e2 : xofB y odd = (decide (x % 2 = 1) == odd) := by unfold xofB; rw [ER.out.2, if_pos rfl, Ex.out]
   rw [e1, e2])
end
end Go.Proofs.YtccgfabojbjmjaaGreatDoor
