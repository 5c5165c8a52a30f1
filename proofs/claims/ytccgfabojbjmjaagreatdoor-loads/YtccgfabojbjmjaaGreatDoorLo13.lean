import Derived.Test.YtccgfabojbjmjaaGreatDoorLo11
import Derived.Test.YtccgfabojbjmjaaGreatDoorLo12
import Derived.Deep.RegionWith
set_option maxRecDepth 100000
set_option maxHeartbeats 8000000
namespace Go.Proofs.YtccgfabojbjmjaaGreatDoor
open Go.RowKit
open Go.RowKit
def dN : Nat := 37095705934669439343138083508754565189542113879843219016388785533085940283555
def uN (y : Nat) : Nat := sP (mP y y) 1
def vN (y : Nat) : Nat := aP (mP (mP y y) dN) 1
def JH (y : Nat) (odd : Bool) : Nat := if decide (QB (uN y) (vN y) % 2 = 1) != odd then sP 0 (QB (uN y) (vN y)) else QB (uN y) (vN y)
def yG (y : Nat) (odd : Bool) : Nat := if QZ (uN y) (vN y) = true then JH y odd else 0
def y5 (y : Nat) (odd : Bool) : Bool := if QZ (uN y) (vN y) = true then decide (JH y odd % 2 = 1) == odd else false
section
variable {P : Program} (w : World)
theorem qd5 {ops : Array Oper} {o : Oper} {a : Act} {K : Act → World → Prop} {Q : Exit → Act → World → Prop} {E : Prop} (hgd : o.guard = none) (ty : TypeId) (x y : Operand) (ho : o.op = .store ty x y)
  (g : Nat) (cells : Array Value) (hx : a.eval x = zp g 0) (hy : a.eval y = .agg cells)
  (t : TypeId) (old : Array Value) (hg : w.heap[g]? = some (.cells old t (0, 0))) (hi : (P.info? ty).map (·.size) = some cells.size)
  (hold : old.size = cells.size) (h1 : cells.all (·.oneCell') = true) (h : K (a.put o.dst undef) (w.setRow g cells)) :
  if Region.wanted o (yielded ops a.tmps) = true then Oper.wp P o a w K Q else E := by
 rw [if_pos (by simp [Region.wanted, hgd])]
 exact wp_store_row ty x y ho g cells hx hy t old hg hi hold h1 h
theorem zQ {P : Program} {w : World} {ops : Array Oper} {o : Oper} {a : Act} {K : Act → World → Prop} {Q : Exit → Act → World → Prop} {E : Prop} (ty : TypeId) (x y : Operand) (g : Nat) (cells : Array Value) {t : TypeId} {old : Array Value} (hg : w.heap[g]? = some (.cells old t (0, 0))) (hi : (P.info? ty).map (·.size) = some cells.size) (hold : old.size = cells.size) (h1 : cells.all (·.oneCell') = true) (h : K (a.put o.dst undef) (w.setRow g cells))
  (hgd : o.guard = none := by rfl) (ho : o.op = .store ty x y := by rfl) (hx : a.eval x = .pointer (some ⟨g, 0, none⟩) := by rfl) (hy : a.eval y = .agg cells := by rfl) : if Region.wanted o (yielded ops a.tmps) = true then Oper.wp P o a w K Q else E := qd5 _ hgd ty x y ho g cells hx hy t old hg hi hold h1 h
end
theorem qvk (n : Nat) : (Value.agg #[nv (wd n 0), nv (wd n 1), nv (wd n 2), nv (wd n 3)]) = .agg (qb n) := rfl
theorem Yu : 1 < P := by decide
theorem qui : dN < P := by decide
structure Gl (w : World) : Prop where
 g0 : ∃ T fr, w.heap[5]? = some (.cells (qb (mP 2 dN)) T fr)
 g1 : ∃ T fr, w.heap[8]? = some (.cells (qb 1) T fr)
 g3 : ∃ T fr, w.heap[10]? = some (.cells (qb P) T fr)
 g4 : ∃ T fr, w.heap[11]? = some (.cells (qb dN) T fr)
 g5 : ∃ T fr, w.heap[12]? = some (.cells (qb Ql) T fr)
section
attribute [local go_sem] qvk
theorem qry (y : Nat) (odd : Bool) (hy : y < P) (w : World) (hG : Gl w) :
  zC 150 #[fe y, .bool odd] w (.tuple #[fe (yG y odd), .bool (y5 y odd)]) := by
 have Hy := qa hy
 clear hy
 obtain ⟨T1, f1, hg1⟩ := hG.g1
 obtain ⟨T4, f4, hg4⟩ := hG.g4
 obtain ⟨T5, f5, hg5⟩ := hG.g5
 have HG1 := qa hg1
 have HG4 := qa hg4
 have HG5 := qa hg5
 have l5 : Hid (12 < w.heap.size) := qm hg5
 clear hg1 hg4 hg5 hG
 go_enter Tryz.func150, Tryz.ntmps150
 go_wp2_with (first | (refine zg (by rfl) 80 (.tmp 2) (by rfl) w.heap.size (by rfl) 80 (qb y) (0, 0) _ (yY _ _ _) jC rfl (jc _) ?_))
 refine (qbv y Hy.o _).mono ?_
 rintro e Wa ⟨rfl, hB⟩
 have hz := hB.size
 simp only [World.size_alloc] at hB hz
 have RY0 : Hid (qi Wa (w.heap.size + 1) qD 80) := (hB.block _ (by omega)).trans (y4 _ _ _)
 have BLa : Hid (zB w Wa) := (((zJ _ w).alloc (zm _) _).alloc (by simp) _).trans (hB.mono (by omega))
 clear hB
 obtain ⟨sqy, HS⟩ := zx (mP y y)
 have Hs : Hid (sqy < P) := by rw [HS.o]; exact qK _ _
 rw [← HS.o]
 go_wp2_with (first | (refine qB 80 (.tmp 6) (.tmp 10) Wa.heap.size (qb sqy) (za _ _) (jc _) rfl (qY _) ?_))
 obtain ⟨W0, hW0⟩ := zy ((Wa.alloc (.cells qD 80)).setRow Wa.heap.size (qb sqy))
 rw [← hW0]
 obtain ⟨ga, hga⟩ := zy Wa.heap.size
 rw [← hga]
 try rw [qH]
 have RS : Hid (qi W0 ga (qb sqy) 80) := by rw [hW0, hga]; exact zd _ _ _ _ _ _ (za _ _)
 have RZ : Hid (qi W0 (w.heap.size + 1) qD 80) := by rw [hW0]; exact (zc _ _ _ _ (by omega)).trans ((zb _ _ (by omega)).trans RY0.o)
 have BL0 : Hid (zB w W0) := by rw [hW0]; exact ze (BLa.o.alloc BLa.o.size _) BLa.o.size _
 have Z0 : Hid (w.heap.size + 1 < W0.heap.size) := qm RZ.o
 have RG1 := qa (qs HG1.o BL0.o (by have := l5.o; omega))
 have RG4 := qa (qs HG4.o BL0.o (by have := l5.o; omega))
 obtain ⟨o1, E1⟩ := zx 1
 obtain ⟨dd, Ed⟩ := zx dN
 have h1P : Hid (o1 < P) := by rw [E1.o]; exact Yu
 have hdP : Hid (dd < P) := by rw [Ed.o]; exact qui
 have RH1 : Hid (W0.heap[8]? = some (.cells (qb o1) T1 f1)) := by rw [E1.o]; exact RG1
 have RH4 : Hid (W0.heap[11]? = some (.cells (qb dd) T4 f4)) := by rw [Ed.o]; exact RG4
 clear RG1 RG4
 have RG5 := qa (qs HG5.o BL0.o l5.o)
 have NA : Hid (w.heap.size + 1 < ga) := by show _ < _; omega
 clear hW0 hga RY0 BLa hz HG1 HG4 HG5
 go_upto_region 2 with fail
 go_cut [7, 8] from 11 to 22 (fun s x8 wx => ∃ g, s = zp g 0 ∧ x8 = .bool (QZ (sP sqy o1) (aP (mP sqy dd) o1)) ∧ Hid (W0.heap.size ≤ g) ∧ Hid (wx.heap[g]? = some (.cells (qb (QB (sP sqy o1) (aP (mP sqy dd) o1))) 80)) ∧ Hid (zB W0 wx))
 case first =>
  obtain ⟨c_sy0, c_sy1, c_sy2, c_sy3⟩ := qn RS.o
  obtain ⟨c_one0, c_one1, c_one2, c_one3⟩ := qn RH1.o
  obtain ⟨c_dd0, c_dd1, c_dd2, c_dd3⟩ := qn RH4.o
  go_region_held3 (fun w' => C4 w' (ga) (sqy) ∧ C4 w' (8) (o1) ∧ C4 w' (11) (dd))
   (first | exact ⟨jj (qN (qr (qn RS.o) K0_3.o (qm RS.o)) _) (by have h0 := qm RS.o; have h1 := K0_0.o.size; have h2 := K0_1.o.size; have h3 := K0_2.o.size; have h4 := K0_3.o.size; have h9 := Z0.o; omega), jj (qN (qr (qn RH1.o) K0_3.o (qm RH1.o)) _) (by have h0 := qm RH1.o; have h1 := K0_0.o.size; have h2 := K0_1.o.size; have h3 := K0_2.o.size; have h4 := K0_3.o.size; have h9 := Z0.o; omega), jj (qN (qr (qn RH4.o) K0_3.o (qm RH4.o)) _) (by have h0 := qm RH4.o; have h1 := K0_0.o.size; have h2 := K0_1.o.size; have h3 := K0_2.o.size; have h4 := K0_3.o.size; have h9 := Z0.o; omega)⟩ | exact ⟨jj (qr (qn RS.o) K0_3.o (qm RS.o)) (by have h0 := qm RS.o; have h1 := K0_0.o.size; have h2 := K0_1.o.size; have h3 := K0_2.o.size; have h4 := K0_3.o.size; have h9 := Z0.o; omega), jj (qr (qn RH1.o) K0_3.o (qm RH1.o)) (by have h0 := qm RH1.o; have h1 := K0_0.o.size; have h2 := K0_1.o.size; have h3 := K0_2.o.size; have h4 := K0_3.o.size; have h9 := Z0.o; omega), jj (qr (qn RH4.o) K0_3.o (qm RH4.o)) (by have h0 := qm RH4.o; have h1 := K0_0.o.size; have h2 := K0_1.o.size; have h3 := K0_2.o.size; have h4 := K0_3.o.size; have h9 := Z0.o; omega)⟩ | exact ⟨(qr (qn RS.o) K0_3.o (qm RS.o)), (qr (qn RH1.o) K0_3.o (qm RH1.o)), (qr (qn RH4.o) K0_3.o (qm RH4.o))⟩ | exact ⟨qN (qr (qn RS.o) K0_3.o (qm RS.o)) _, qN (qr (qn RH1.o) K0_3.o (qm RH1.o)) _, qN (qr (qn RH4.o) K0_3.o (qm RH4.o)) _⟩ | exact ⟨(qr (qn RS.o) K0_2.o (qm RS.o)), (qr (qn RH1.o) K0_2.o (qm RH1.o)), (qr (qn RH4.o) K0_2.o (qm RH4.o))⟩ | exact ⟨qN (qr (qn RS.o) K0_2.o (qm RS.o)) _, qN (qr (qn RH1.o) K0_2.o (qm RH1.o)) _, qN (qr (qn RH4.o) K0_2.o (qm RH4.o)) _⟩ | exact ⟨(qr (qn RS.o) K0_1.o (qm RS.o)), (qr (qn RH1.o) K0_1.o (qm RH1.o)), (qr (qn RH4.o) K0_1.o (qm RH4.o))⟩ | exact ⟨qN (qr (qn RS.o) K0_1.o (qm RS.o)) _, qN (qr (qn RH1.o) K0_1.o (qm RH1.o)) _, qN (qr (qn RH4.o) K0_1.o (qm RH4.o)) _⟩ | exact ⟨(qr (qn RS.o) K0_0.o (qm RS.o)), (qr (qn RH1.o) K0_0.o (qm RH1.o)), (qr (qn RH4.o) K0_0.o (qm RH4.o))⟩ | exact ⟨qN (qr (qn RS.o) K0_0.o (qm RS.o)) _, qN (qr (qn RH1.o) K0_0.o (qm RH1.o)) _, qN (qr (qn RH4.o) K0_0.o (qm RH4.o)) _⟩ | exact ⟨qn RS.o, qn RH1.o, qn RH4.o⟩ | exact ⟨qN (w := W0.drew) (qn RS.o) _, qN (w := W0.drew) (qn RH1.o) _, qN (w := W0.drew) (qn RH4.o) _⟩ | go_keep)
   (first
    | (go_at_call 119; (fail_if_success (have zz := K0_0)); refine (JD sqy o1 Hs.o h1P.o _).mono ?_; rintro e V0_0 ⟨rfl, HB⟩; have K0_0 : Hid (zB W0 V0_0) := (by first | exact qa (Zt HB) | exact qa (Below.trans (Below.alloc (Below.drew (zJ _ _)) (zm _) _) (HB.mono (by simp)))); (first | (have ZZ := qa (qM (za _ (.cells qD 80)) HB)) | (have ZZ := qa (qM (w := (W0.alloc (.cells qD 80)).drew) (za W0 (.cells qD 80)) HB)) | (have ZZ := qa (qM ZZ.o HB)) | skip); clear HB)
    | (go_at_call 93; (fail_if_success (have zz := K0_1)); (have zz := K0_0; clear zz); refine (jF sqy dd Hs.o hdP.o _).mono ?_; rintro e V0_1 ⟨rfl, HB⟩; have K0_1 : Hid (zB W0 V0_1) := (by first | exact qa (K0_0.o.trans (HB.mono K0_0.o.size)) | exact qa ((K0_0.o.alloc K0_0.o.size _).trans (HB.mono (by have := K0_0.o.size; simp; omega)))); (first | (have ZZ := qa (qM (za _ (.cells qD 80)) HB)) | (have ZZ := qa (qM (w := (W0.alloc (.cells qD 80)).drew) (za W0 (.cells qD 80)) HB)) | (have ZZ := qa (qM ZZ.o HB)) | skip); clear HB)
    | (go_at_call 120; (fail_if_success (have zz := K0_2)); (have zz := K0_1; clear zz); refine (yf (mP sqy dd) o1 (qK _ _) h1P.o _).mono ?_; rintro e V0_2 ⟨rfl, HB⟩; have K0_2 : Hid (zB W0 V0_2) := (by first | exact qa (K0_1.o.trans (HB.mono K0_1.o.size)) | exact qa ((K0_1.o.alloc K0_1.o.size _).trans (HB.mono (by have := K0_1.o.size; simp; omega)))); (first | (have ZZ := qa (qM (za _ (.cells qD 80)) HB)) | (have ZZ := qa (qM (w := (W0.alloc (.cells qD 80)).drew) (za W0 (.cells qD 80)) HB)) | (have ZZ := qa (qM ZZ.o HB)) | skip); clear HB)
    | (go_at_call 162; (fail_if_success (have zz := K0_3)); (have zz := K0_2; clear zz); refine (qr8 (sP sqy o1) (aP (mP sqy dd) o1) (jR _ _) (QF _ _) T5 f5 _ ?_).mono ?_; (first | exact qs RG5.o K0_2.o (qm RG5.o) | exact (zb _ _ (by have := K0_2.o.size; have := qm RG5.o; omega)).trans (qs RG5.o K0_2.o (qm RG5.o))); rintro e V0_3 ⟨rfl, HB⟩; have K0_3 : Hid (zB W0 V0_3) := (by first | exact qa (K0_2.o.trans (HB.mono K0_2.o.size)) | exact qa ((K0_2.o.alloc K0_2.o.size _).trans (HB.mono (by have := K0_2.o.size; simp; omega)))); (first | (have ZZ := qa (qM (za _ (.cells qD 80)) HB)) | (have ZZ := qa (qM (w := (W0.alloc (.cells qD 80)).drew) (za W0 (.cells qD 80)) HB)) | (have ZZ := qa (qM ZZ.o HB)) | skip); clear HB; (first | (have hst := jP (P := Tryz.prog) (cs := qb (QB (sP sqy o1) (aP (mP sqy dd) o1))) ZZ.o rfl (qY _)) | (have hst := jP (P := Tryz.prog) (w := V0_3.alloc (.cells qD 80)) (cs := qb (QB (sP sqy o1) (aP (mP sqy dd) o1))) (za _ _) rfl (qY _))); have hs4 : (qb (QB (sP sqy o1) (aP (mP sqy dd) o1))).size = 4 := rfl))
  all_goals (
   clear c_sy0 c_sy1 c_sy2 c_sy3
   clear c_one0 c_one1 c_one2 c_one3
   clear c_dd0 c_dd1 c_dd2 c_dd3
   clear hst hs4
   go_wp2_with fail
   go_meet
   case rel => first | exact ⟨_, rfl, rfl, qa (by have h1 := K0_0.o.size; have h2 := K0_1.o.size; have h3 := K0_2.o.size; have h4 := K0_3.o.size; omega), qa (zd _ _ _ _ _ _ ZZ.o), qa (ze K0_3.o (by have h1 := K0_0.o.size; have h2 := K0_1.o.size; have h3 := K0_2.o.size; have h4 := K0_3.o.size; omega) _)⟩ | exact ⟨_, rfl, rfl, qa (by have h1 := K0_0.o.size; have h2 := K0_1.o.size; have h3 := K0_2.o.size; have h4 := K0_3.o.size; omega), qa (zd _ _ _ _ _ _ (za _ _)), qa (ze (K0_3.o.alloc K0_3.o.size _) (by have h1 := K0_0.o.size; have h2 := K0_1.o.size; have h3 := K0_2.o.size; have h4 := K0_3.o.size; omega) _)⟩)
 case rest =>
 obtain ⟨g1, rfl, rfl, G1, Q1, X1⟩ := hcut
 obtain ⟨W1, hW1⟩ := zy wc
 subst hW1
 have BL1 : Hid (zB w W1) := BL0.o.trans (X1.o.mono BL0.o.size)
 have Z1 : Hid (w.heap.size + 1 < W1.heap.size) := by show _ < _; have := Z0.o; have := X1.o.size; omega
 replace RS := qa (qs RS.o X1.o (qm RS.o))
 replace RH1 := qa (qs RH1.o X1.o (qm RH1.o))
 replace RH4 := qa (qs RH4.o X1.o (qm RH4.o))
 replace RZ := qa (qs RZ.o X1.o Z0.o)
 have N1 : Hid (w.heap.size + 1 < g1) := by show _ < _; have := G1.o; have := Z0.o; omega
 clear X1 BL0 Z0 G1
 obtain ⟨r, Er⟩ := zx (QB (sP sqy o1) (aP (mP sqy dd) o1))
 obtain ⟨ok, Eo⟩ := zx (QZ (sP sqy o1) (aP (mP sqy dd) o1))
 have Hr : Hid (r < P) := by rw [Er.o]; exact qca _ _
 rw [← Eo.o]
 rw [← Er.o] at Q1
 have ER : Hid (QB (uN y) (vN y) = r ∧ QZ (uN y) (vN y) = ok) := by
  rw [HS.o, E1.o, Ed.o] at Er Eo
  exact ⟨Er.o.symm, Eo.o.symm⟩
 clear RS RH1 RH4 RG5 Er Eo
 cases ok with
 | false =>
  go_wp2_with (first
   | (refine qB 80 (.tmp 4) (.tmp 25) (w.heap.size + 1) qD RZ.o J9 rfl qda ?_))
  refine zh (v := .tuple #[.agg qD, .bool false]) (jJ Tryz.results150 _ _ (w.heap.size + 1) 80 qD (0, 0) _ (by rfl) (zd _ _ _ _ _ _ RZ.o) jC rfl J9) rfl ⟨?_, ze BL1.o (by omega) _⟩
  have e1 : yG y odd = 0 := by unfold yG; rw [ER.o.2, if_neg (by decide)]
  have e2 : y5 y odd = false := by unfold y5; rw [ER.o.2, if_neg (by decide)]
  rw [e1, e2]
  show Ending.returned (.tuple #[.agg qD, .bool false]) = .returned (.tuple #[.agg (qb 0), .bool false])
  rw [qbq]
 | true =>
  go_wp2_with (first
   | (refine zL 80 (.tmp 7) g1 (qb r) Q1.o jC (jc _) ?_))
  refine (qhh r _).mono ?_
  rintro e W2 ⟨rfl, hB2⟩
  have Q2 := qa (qM Q1.o hB2)
  have RZ2 := qa (qM RZ.o hB2)
  have BL2 : Hid (zB w W2) := BL1.o.trans (hB2.mono BL1.o.size)
  clear hB2 Q1 RZ BL1
  obtain ⟨x, Ex⟩ := zx (JH y odd)
  have Hx : Hid (x < P) := by
   rw [Ex.o]; unfold JH; rw [ER.o.1]; show _ < _; split
   · exact jR _ _
   · exact Hr.o
  obtain ⟨bb, Hbb⟩ := zx ((!(decide (r % 2 = 1) == odd)))
  have EX : Hid (x = if bb = true then sP 0 r else r) := by rw [Ex.o, Hbb.o]; unfold JH; rw [ER.o.1]; exact rfl
  go_upto_if 29 with fail
  rw [← Hbb.o]
  go_cut [] from 30 to 32 (fun wx => Hid (qi wx g1 (qb x) 80) ∧ Hid (qi wx (w.heap.size + 1) qD 80) ∧ Hid (zB w wx))
  case first =>
   cases bb with
   | true =>
    go_wp2_with (first
     | (refine zL 80 (.tmp 7) g1 (qb r) Q2.o jC (jc _) ?_))
    refine (qhS r Hr.o _).mono ?_
    rintro e W3 ⟨rfl, hB3⟩
    have ex : sP 0 r = x := EX.o.symm
    rw [ex]
    have Q3 := qa (qM Q2.o hB3)
    have RZ3 := qa (qM RZ2.o hB3)
    have BL3 : Hid (zB w W3) := BL2.o.trans (hB3.mono BL2.o.size)
    clear hB3 ex
    have ng : w.heap.size + 1 ≠ g1 := by have := N1.o; omega
    go_wp2_with (first
     | (refine qB 80 (.tmp 7) (.tmp 32) g1 (qb x) Q3.o (jc _) rfl (qY _) ?_))
    try rw [qH]
    go_meet
    case rel => exact ⟨qa (zd _ _ _ _ _ _ Q3.o), qa ((zc _ _ _ _ ng).trans RZ3.o), qa (ze BL3.o (by have := N1.o; omega) _)⟩
   | false =>
    have ex : r = x := EX.o.symm
    go_wp2_with fail
    go_meet
    case rel => exact ⟨by rw [← ex]; exact Q2, RZ2, BL2⟩
  case rest =>
  obtain ⟨Q3, RZ3, BL3⟩ := hcut
  obtain ⟨W3, hW3⟩ := zy wc
  subst hW3
  obtain ⟨c0, c1, c2, c3⟩ := qn Q3.o
  have ng : w.heap.size + 1 ≠ g1 := by have := N1.o; omega
  go_upto_region 7 with fail
  go_region_held3 (fun w' => C4 w' g1 x)
   (first | exact jj (qr (qn Q3.o) KK.o (qm Q3.o)) (Ne.symm ng) | exact qr (qn Q3.o) KK.o (qm Q3.o) | exact qn Q3.o | go_keep)
   (first
    | (go_at_call 95; refine (qhh x _).mono ?_; rintro e VV ⟨rfl, HB⟩; have KK : Hid (zB W3 VV) := qa (Zt HB); have RZV := qa (qs RZ3.o KK.o (qm RZ3.o)); have hst := jP (P := Tryz.prog) (cs := qb x) RZV.o rfl (qY _); have hs4 : (qb x).size = 4 := rfl; clear HB))
  all_goals (
   clear c0 c1 c2 c3 hst hs4
   have RZ4 := qa (qs RZ3.o KK.o (qm RZ3.o))
   have BL4 : Hid (zB w VV) := BL3.o.trans (KK.o.mono BL3.o.size)
   go_wp2_with fail
   refine zh (v := .tuple #[fe x, .bool (decide (x % 2 = 1) == odd)]) (jJ Tryz.results150 _ _ (w.heap.size + 1) 80 (qb x) (0, 0) _ (by rfl) (zd _ _ _ _ _ _ RZ4.o) jC rfl (jc _)) rfl ⟨?_, ze BL4.o (by omega) _⟩
   have e1 : yG y odd = x := by unfold yG; rw [ER.o.2, if_pos rfl, Ex.o]
   have e2 : y5 y odd = (decide (x % 2 = 1) == odd) := by unfold y5; rw [ER.o.2, if_pos rfl, Ex.o]
   rw [e1, e2])
end
def Cg (a x e : Nat) : Prop := x % P = a ^ e % P
theorem Cg.one (a : Nat) : Cg a a 1 := by unfold Cg; rw [Nat.pow_one]
theorem Cg.mP {a x y e f : Nat} (hx : Cg a x e) (hy : Cg a y f) : Cg a (mP x y) (e + f) := by
 unfold Cg Proofs.YtccgfabojbjmjaaGreatDoor.mP at *
 rw [Nat.mod_mod, Nat.mul_mod, hx, hy, ← Nat.mul_mod, Nat.pow_add]
theorem Cg.sqN {a x e : Nat} (k : Nat) (hx : Cg a x e) : Cg a (sqN k x) (e * 2 ^ k) := by
 induction k generalizing x e with
 | zero => rw [Nat.pow_zero, Nat.mul_one]; exact hx
 | succ k ih =>
  have := ih (Cg.mP hx hx)
  rw [Zk, Zl (2 ^ k) 2, ← Zm, Nat.mul_two]
  exact this
theorem Cg.cast {a x e f : Nat} (h : Cg a x e) (hf : e = f) : Cg a x f := hf ▸ h
theorem qmr (a : Nat) : Cg a (Jo a) 1809251394333065553493296640760748560207343510400633813116524750123642650623 := by
 have c1 := Cg.one a
 have c2 := ((c1.sqN 1).mP c1).cast (show 1 * 2 ^ 1 + 1 = 3 by decide)
 have c4 := ((c2.sqN 2).mP c2).cast (show 3 * 2 ^ 2 + 3 = 15 by decide)
 have c5 := ((c4.sqN 1).mP c1).cast (show 15 * 2 ^ 1 + 1 = 31 by decide)
 have c10 := ((c5.sqN 5).mP c5).cast (show 31 * 2 ^ 5 + 31 = 1023 by decide)
 have c20 := ((c10.sqN 10).mP c10).cast (show 1023 * 2 ^ 10 + 1023 = 1048575 by decide)
 have c40 := ((c20.sqN 20).mP c20).cast (show 1048575 * 2 ^ 20 + 1048575 = 1099511627775 by decide)
 have c50 := ((c40.sqN 10).mP c10).cast (show 1099511627775 * 2 ^ 10 + 1023 = 1125899906842623 by decide)
 have c100 := ((c50.sqN 50).mP c50).cast (show 1125899906842623 * 2 ^ 50 + 1125899906842623 = 1267650600228229401496703205375 by decide)
 have c200 := ((c100.sqN 100).mP c100).cast (show 1267650600228229401496703205375 * 2 ^ 100 + 1267650600228229401496703205375 = 1606938044258990275541962092341162602522202993782792835301375 by decide)
 exact ((c200.sqN 50).mP c50).cast (by decide)
def E8 : Nat := 7237005577332262213973186563042994240829374041602535252466099000494570602493
theorem qqY (a : Nat) : Cg a (Yv a) E8 :=
 (((qmr a).sqN 2).mP (Cg.one a)).cast (by decide)
def kJ : Nat := 57896044618658097711785492504343953926634992332820282019728792003956564819947
theorem qmY : kJ + 1 = P - 1 := by decide
theorem qnw (a : Nat) : Cg a (Qa a) kJ := by
 have c1 := Cg.one a
 exact (((qmr a).sqN 5).mP ((c1.mP (c1.sqN 1)).mP (c1.sqN 3))).cast (by decide)
theorem ql7 (a : Nat) : Qa a = a ^ kJ % P := by
 have := qnw a
 unfold Cg at this
 rw [z6 (ql2 a)] at this; exact this
theorem qee {a : Nat} (h : a % P ≠ 0) : a ^ (P - 1) % P = 1 := prP.2 a h
theorem qq0 {a : Nat} (h : a % P ≠ 0) : a * Qa a % P = 1 := by
 have e := ql7 a
 rw [e, Nat.mul_mod, Nat.mod_mod, ← Nat.mul_mod, ← Nat.pow_succ', show kJ.succ = P - 1 from qmY]
 exact qee h
theorem qeS (a b : Nat) : mP a b = mP b a := by unfold mP; rw [Zl]
theorem Y5 (a b c : Nat) : mP (mP a b) c = mP a (mP b c) := by
 unfold mP
 rw [Nat.mul_mod (a * b % P) c, Nat.mod_mod, ← Nat.mul_mod, Nat.mul_mod a (b * c % P), Nat.mod_mod, ← Nat.mul_mod, Zm]
theorem kj {a : Nat} (h : a < P) : mP a 1 = a := by unfold mP; rw [Nat.mul_one, z6 h]
theorem qdy {v : Nat} (h : v % P ≠ 0) : mP v (Qa v) = 1 := qq0 h
theorem qu8 : kJ * (E8 + 1) = 3 + 7 * E8 + (P - 1) * E8 := by decide +kernel
def jz (a e : Nat) : Nat := a ^ e % P
theorem kq (a b e : Nat) : jz (mP a b) e = mP (jz a e) (jz b e) := by
 unfold jz mP
 rw [← Nat.pow_mod, Nat.mul_pow, Nat.mul_mod]
theorem yd (a e f : Nat) : jz a (e + f) = mP (jz a e) (jz a f) := by
 unfold jz mP
 rw [Nat.pow_add, Nat.mul_mod]
theorem qg4 (a e f : Nat) : jz (jz a e) f = jz a (e * f) := by
 unfold jz
 rw [← Nat.pow_mod, ← Nat.pow_mul]
theorem qpu (a e : Nat) : jz a e < P := Nat.mod_lt _ j3
theorem qeT {a : Nat} (h : a < P) : jz a 1 = a := by unfold jz; rw [Nat.pow_one, z6 h]
theorem qqp (e : Nat) : jz 1 e = 1 := by unfold jz; rw [Nat.one_pow]; decide
theorem qjt {v : Nat} (h : v % P ≠ 0) (e : Nat) : jz v ((P - 1) * e) = 1 := by
 rw [← qg4, show jz v (P - 1) = 1 from qee h, qqp]
theorem qrO (a : Nat) : Yv a = jz a E8 := by
 have := qqY a
 unfold Cg at this
 rw [z6 (qps a)] at this
 exact this
theorem qhb (a : Nat) : Qa a = jz a kJ := ql7 a
theorem qoV {v : Nat} (h : v < P) : cbN v = jz v 3 := by
 rw [show 3 = 1 + 1 + 1 from rfl, yd, yd, qeT h]; rfl
theorem qsC {v : Nat} (h : v < P) : svN v = jz v 7 := by
 rw [show 7 = 3 + 3 + 1 from rfl, yd, yd, qeT h, ← qoV h]; rfl
theorem qf4 {u v : Nat} (hu : u < P) (hv : v < P) (h0 : v % P ≠ 0) : Jj u v = jz (mP u (Qa v)) (E8 + 1) := by
 unfold Jj
 rw [qrO, kq, qoV hv, qsC hv, kq, qhb, qg4, qg4, qu8, yd v (3 + 7 * E8), qjt h0, kj (qpu _ _), yd v 3, Nat.add_comm E8 1, yd u 1, qeT hu]
 rw [Y5, Y5, ← Y5 (jz v 3) (jz u E8), qeS (jz v 3) (jz u E8), Y5]
theorem qiO {u v : Nat} (hu : u < P) (h0 : v % P ≠ 0) : QM u v = u ↔ mP (Jj u v) (Jj u v) = mP u (Qa v) := by
 unfold QM
 constructor
 ·
  intro h
  have e : mP (mP (mP (Jj u v) (Jj u v)) v) (Qa v) = mP u (Qa v) := by rw [h]
  rw [Y5 _ v, qdy h0, kj (qK _ _)] at e
  exact e
 ·
  intro h
  rw [h, Y5, qeS (Qa v) v, qdy h0, kj hu]
theorem quQ (u x : Nat) (hu : u < P) : mP (sP 0 u) x = sP 0 (mP u x) := by
 unfold mP sP
 rw [Zb, Zb]
 have h1 : u * x % P < P := Nat.mod_lt _ j3
 have e1 : ((P - u) * x + u * x) % P = 0 := by rw [← Nat.add_mul, Nat.sub_add_cancel (Nat.le_of_lt hu), Nat.mul_mod_right]
 have e2 : (P - u) % P * x % P = (P - u) * x % P := by rw [Nat.mul_mod, Nat.mod_mod, ← Nat.mul_mod]
 rw [e2]
 rw [Nat.add_mod] at e1
 have h2 : (P - u) * x % P < P := Nat.mod_lt _ j3
 generalize (P - u) * x % P = a at *
 generalize u * x % P = b at *
 rw [Zw] at *
 omega
theorem qiu {u v : Nat} (hu : u < P) (h0 : v % P ≠ 0) : QM u v = sP 0 u ↔ mP (Jj u v) (Jj u v) = sP 0 (mP u (Qa v)) := by
 unfold QM
 rw [← quQ u (Qa v) hu]
 constructor
 ·
  intro h
  have e : mP (mP (mP (Jj u v) (Jj u v)) v) (Qa v) = mP (sP 0 u) (Qa v) := by rw [h]
  rw [Y5 _ v, qdy h0, kj (qK _ _)] at e
  exact e
 ·
  intro h
  rw [h, Y5, qeS (Qa v) v, qdy h0, kj (jR _ _)]
def Hf : Nat := 28948022309329048855892746252171976963317496166410141009864396001978282409974
theorem qkM : Hf + Hf = P - 1 := by decide +kernel
theorem qcS (a e c f : Nat) (he : e < 2 ^ f) (h : pm P f a e = c) : jz a e = c := (qnx P f a e he).symm.trans h
theorem qsX : jz dN Hf = P - 1 := qcS dN Hf (P - 1) 255 (by decide +kernel) (by decide +kernel)
theorem qsA : jz (P - 1) Hf = 1 := qcS (P - 1) Hf 1 255 (by decide +kernel) (by decide +kernel)
theorem qn6 (y : Nat) : vN y % P ≠ 0 := by
 intro h
 have hlt : vN y < P := QF _ _
 rw [z6 hlt] at h
 have e : mP (mP y y) dN = P - 1 := by
  have hl := qK (mP y y) dN
  unfold vN aP at h
  generalize mP (mP y y) dN = a at *
  rw [Zw] at *
  omega
 by_cases hy : y % P = 0
 ·
  have e0 : mP y y = 0 := by unfold mP; rw [Nat.mul_mod, hy]; rfl
  rw [e0] at e
  have e1 : mP 0 dN = 0 := by unfold mP; rw [Nat.zero_mul]; rfl
  rw [e1] at e
  have : 0 ≠ P - 1 := by decide
  exact this e
 ·
  have e2 : jz (mP (mP y y) dN) Hf = 1 := by rw [e, qsA]
  rw [kq, kq, ← yd, qkM, show jz y (P - 1) = 1 from qee hy, qsX] at e2
  have e3 : mP 1 (P - 1) = P - 1 := by decide
  rw [e3] at e2
  have : P - 1 ≠ 1 := by decide
  exact this e2
instance nzP : NeZero P := ⟨by decide⟩
def qp (n : Nat) : Fin P := Fin.ofNat P n
theorem Yk {a b : Nat} (ha : a < P) (hb : b < P) (h : qp a = qp b) : a = b := by
 have := congrArg Fin.val h
 simp only [qp, Fin.val_ofNat] at this
 rw [z6 ha, z6 hb] at this
 exact this
theorem ji (a b : Nat) : qp (mP a b) = qp a * qp b := by
 apply Fin.ext
 simp only [qp, Fin.val_ofNat, Fin.val_mul, mP]
 rw [Nat.mod_mod, Nat.mul_mod]
theorem Jf (a b : Nat) : qp (aP a b) = qp a + qp b := by
 apply Fin.ext
 simp only [qp, Fin.val_ofNat, Fin.val_add, aP]
 rw [Nat.mod_mod, Nat.add_mod]
theorem J6 (a b : Nat) (hb : b < P) : qp (sP a b) = qp a - qp b := by
 have h : qp (sP a b) + qp b = qp a := by
  rw [← Jf]
  apply Fin.ext
  simp only [qp, Fin.val_ofNat, aP, sP]
  rw [Zw] at *
  omega
 grind
theorem kC : qp 0 = 0 := rfl
theorem ZY : qp 1 = 1 := by apply Fin.ext; decide
theorem qa1 {a : Nat} (ha : a < P) : qp a = 0 ↔ a = 0 := by
 constructor
 · intro h; exact Yk ha j3 (h.trans kC.symm)
 · intro h; rw [h]; rfl
def tdN : Nat := 16295367250680780974490674513165176452449235426866156013048779062215315747161
theorem qr2 : tdN < P := by decide
theorem qsW : tdN = aP dN dN := by decide
structure Pt where
 x : Nat
 y : Nat
 z : Nat
 t : Nat
structure Pt.Ok (p : Pt) : Prop where
 x : p.x < P
 y : p.y < P
 z : p.z < P
 t : p.t < P
def YL (e f g h : Nat) : Pt := ⟨mP e f, mP g h, mP f g, mP e h⟩
theorem qaN (e f g h : Nat) : (YL e f g h).Ok := ⟨qK _ _, qK _ _, qK _ _, qK _ _⟩
def aA (p q : Pt) : Nat := mP (sP p.y p.x) (sP q.y q.x)
def bB (p q : Pt) : Nat := mP (aP p.y p.x) (aP q.y q.x)
def cC (p q : Pt) : Nat := mP (mP p.t tdN) q.t
def zZ (p q : Pt) : Nat := mP p.z q.z
def ZI (p q : Pt) : Pt := YL (sP (bB p q) (aA p q)) (sP (aP (zZ p q) (zZ p q)) (cC p q)) (aP (aP (zZ p q) (zZ p q)) (cC p q)) (aP (bB p q) (aA p q))
structure Q3 where
 x : Nat
 y : Nat
 z : Nat
structure Q3.Ok (p : Q3) : Prop where
 x : p.x < P
 y : p.y < P
 z : p.z < P
def qz (p q : Q3) : Nat := mP p.z q.z
def qe (p q : Q3) : Nat := mP dN (mP (mP p.x q.x) (mP p.y q.y))
def qf (p q : Q3) : Nat := sP (mP (qz p q) (qz p q)) (qe p q)
def qg (p q : Q3) : Nat := aP (mP (qz p q) (qz p q)) (qe p q)
def qc (p q : Q3) : Nat := aP (mP p.x q.y) (mP q.x p.y)
def qqD (p q : Q3) : Q3 := ⟨mP (qz p q) (mP (qf p q) (qc p q)), mP (qz p q) (mP (qg p q) (aP (mP p.y q.y) (mP p.x q.x))), mP (qf p q) (qg p q)⟩
theorem qn0 (p q : Q3) : (qqD p q).Ok := ⟨qK _ _, qK _ _, qK _ _⟩
def Yg (x y : Nat) : Pt := ⟨x, y, 1, mP x y⟩
def qvB (x y : Nat) : Q3 := ⟨x, y, 1⟩
theorem qqw : qp tdN = qp dN + qp dN := by rw [qsW, Jf]
def qnb (x z : Nat) : Nat := mP x (Qa z)
def Qt : Nat := 14474011154664524427946373126085988481658748083205070504932198000989141204987
theorem qtN : jz 2 Qt = Ql := qcS 2 Qt Ql 255 (by decide +kernel) (by decide +kernel)
theorem qs5 : mP Ql Ql = P - 1 := by decide +kernel
theorem qrV (x r a m : Fin P) (e : r * r + 1 = 0) (h : x * r * (x * r) = a) (hm : m + a = 0) : x * x = m := by grind
theorem qrJ (x r a m : Fin P) (e : r * r + 1 = 0) (h : x * x = m) (hm : m + a = 0) : x * r * (x * r) = a := by grind
theorem qrL : qp Ql * qp Ql + 1 = 0 := by
 rw [← ji, qs5]; apply Fin.ext; decide +kernel
theorem YU {a : Nat} (ha : a < P) : qp (sP 0 a) + qp a = 0 := by
 rw [J6 _ _ ha, kC]; generalize qp a = x; grind
theorem qn5 {x a : Nat} (ha : a < P) : mP (mP x Ql) (mP x Ql) = a ↔ mP x x = sP 0 a := by
 constructor
 ·
  intro h
  apply Yk (qK _ _) (jR _ _)
  rw [ji]
  refine qrV _ (qp Ql) (qp a) _ qrL ?_ (YU ha)
  rw [← ji, ← ji, h]
 ·
  intro h
  apply Yk (qK _ _) ha
  rw [ji, ji]
  refine qrJ _ (qp Ql) (qp a) _ qrL ?_ (YU ha)
  rw [← ji, h]
theorem qq8 {x : Nat} (h0 : x ≠ 0) : sP 0 x = P - x := by
 unfold sP
 rw [Zb, z6 (Nat.sub_lt j3 (by omega))]
theorem ql0 {x : Nat} (hx : x < P) (h0 : x ≠ 0) : sP 0 x % 2 = 1 ↔ x % 2 = 0 := by
 rw [qq8 h0]
 obtain ⟨k, hk⟩ : ∃ k, P = 2 * k + 1 := ⟨28948022309329048855892746252171976963317496166410141009864396001978282409974, by decide +kernel⟩
 rw [hk]
 rw [hk] at hx
 omega
theorem qn1 : sP 0 0 = 0 := by decide +kernel
end Go.Proofs.YtccgfabojbjmjaaGreatDoor
