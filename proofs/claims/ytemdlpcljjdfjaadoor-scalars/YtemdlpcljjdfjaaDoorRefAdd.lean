import Derived.Test.YtemdlpcljjdfjaaDoorRefPof
import Derived.Test.YtemdlpcljjdfjaaDoorRefPlus
import Derived.Test.YtemdlpcljjdfjaaDoorRefCode
/- The document's powers and the program's are one. Plain mathematics. -/
namespace Go.Proofs.YtemdlpcljjdfjaaDoor
theorem onesN_pow (a : Nat) : ∀ n, Cg a (onesN a n) (2 ^ n - 1)
  | 0 => by unfold Cg onesN; rw [Nat.pow_zero]
  | n + 1 => by
    have c := (((onesN_pow a n).sqN 1).mP (Cg.one a))
    refine Cg.cast (e := (2 ^ n - 1) * 2 ^ 1 + 1) c ?_
    have : 0 < 2 ^ n := Nat.pow_pos (by decide)
    rw [Nat.pow_succ 2 n, Nat.pow_one]
    omega
theorem Cg.eq {a x e : Nat} (h : Cg a x e) (hx : x < P) : x = pwP a e := by
  unfold Cg at h
  rw [Nat.mod_eq_of_lt hx] at h
  exact h
theorem invD_invN (a : Nat) : invD a = invN a := by
  rw [invN_pw]
  have c1 := Cg.one a
  have c := ((((((((onesN_pow a 250).sqN 2).mP c1).sqN 2).mP c1).sqN 1).mP c1))
  refine (Cg.cast c ?_).eq (invD_lt a)
  decide +kernel
theorem m1D_rmN : m1D = rmN := by
  rw [← rmN_pw]
  have c1 := Cg.one 2
  have c := ((((onesN_pow 2 250).sqN 2).mP c1).sqN 1).mP c1
  refine (Cg.cast c ?_).eq (mP_lt _ _)
  decide +kernel
theorem k66_pw : pwP 121666 Pm2 = 37095705934669439343138083508754565189542113879843219016388785533085940283556 := pw_of_pm 121666 Pm2 _ 255 (by decide +kernel) (by decide +kernel)
theorem crvD_dN : crvD = dN := by
  unfold crvD
  rw [invD_invN, invN_pw, k66_pw]
  decide +kernel
theorem rxD_0 (a : Nat) : rxD a 0 = pwP a (E8 + 1) := by
  have c : Cg a (sqN 1 (onesN a 251)) ((2 ^ 251 - 1) * 2 ^ 1) := (onesN_pow a 251).sqN 1
  have e : rxD a 0 = sqN 1 (onesN a 251) := mP_one (sqN_lt 1 _ (onesN_lt _ _))
  rw [e]
  refine (Cg.cast c ?_).eq (sqN_lt 1 _ (onesN_lt _ _))
  decide +kernel
theorem vN_lt (y : Nat) : vN y < P := aP_lt _ _
theorem uN_lt (y : Nat) : uN y < P := sP_lt _ _
theorem pofA_eq (y : Nat) : pofA dN y = mP (uN y) (invN (vN y)) := by
  unfold pofA uN vN
  rw [invD_invN, mP_comm dN]
theorem rx0_rt (y : Nat) : rxD (pofA dN y) 0 = rtN (uN y) (vN y) := by
  rw [rxD_0, pofA_eq, root_same (uN_lt y) (vN_lt y) (vN_ne y)]
theorem rx1_rt (y : Nat) : rxD (pofA dN y) 1 = mP (rtN (uN y) (vN y)) rmN := by
  show mP (rxD (pofA dN y) 0) m1D = _
  rw [rx0_rt, m1D_rmN]
theorem t1 (y : Nat) : mP (rxD (pofA dN y) 0) (rxD (pofA dN y) 0) = pofA dN y ↔ sqrN (uN y) (vN y) = uN y := by
  rw [test_one (uN_lt y) (vN_ne y), rx0_rt, pofA_eq]
theorem t2 (y : Nat) : mP (rxD (pofA dN y) 1) (rxD (pofA dN y) 1) = pofA dN y ↔ sqrN (uN y) (vN y) = sP 0 (uN y) := by
  rw [test_two (uN_lt y) (vN_ne y), rx1_rt, test_doc (pofA_lt _ _), pofA_eq]
/-- THE ROOT OF THE DOCUMENT IS THE PROGRAM's. -/
theorem pofR_root (y : Nat) : pofR dN y = rootV (uN y) (vN y) := by
  unfold pofR rootDV rootV
  simp only [t1, t2]
  rw [rx0_rt, rx1_rt]
theorem rootDB_root (y : Nat) : rootDB (pofA dN y) = rootB (uN y) (vN y) := by
  unfold rootDB rootB
  simp only [t1, t2]
/-- x, and whether there is one. -/
theorem xs_same (y : Nat) (odd : Bool) : pofX dN y odd = xsN y odd := by
  unfold pofX xsN
  rw [pofR_root]
theorem ok_same (y : Nat) (odd : Bool) : (rootDB (pofA dN y) && !(decide (pofR dN y = 0) && odd)) = xofB y odd := by
  unfold xofB
  rw [rootDB_root, pofR_root]
  cases hb : rootB (uN y) (vN y)
  · simp
  · simp only [if_true, Bool.true_and]
    unfold xsN
    have hl := rootV_lt (uN y) (vN y)
    generalize rootV (uN y) (vN y) = r at *
    by_cases h0 : r = 0
    · subst h0
      cases odd
      · decide +kernel
      · decide +kernel
    · have hop := opp_odd hl h0
      rw [decide_eq_false h0]
      simp only [Bool.false_and, Bool.not_false]
      by_cases hp : r % 2 = 1
      · cases odd
        · simp only [hp, decide_true]
          have : ¬ sP 0 r % 2 = 1 := by rw [hop]; omega
          simp [this]
        · simp [hp]
      · cases odd
        · simp [hp]
        · have : sP 0 r % 2 = 1 := by rw [hop]; omega
          simp [hp, this]
end Go.Proofs.YtemdlpcljjdfjaaDoor
/- The document's answer: Add (genadd.py). -/
namespace Go.Proofs.YtemdlpcljjdfjaaDoor
open Go.RowKit
theorem q0_ok : q0.Ok := ⟨P_pos, P_pos, P_pos⟩
theorem pofX_lt (d y : Nat) (odd : Bool) : pofX d y odd < P := by
  unfold pofX; split
  · exact sP_lt _ _
  · exact rootDV_lt _
theorem pofQ_ok (d : Nat) (s : ByteArray) : (pofQ d s).Ok := by
  unfold pofQ; split
  · exact ⟨pofX_lt _ _ _, Nat.mod_lt _ P_pos, oneP⟩
  · exact q0_ok
theorem plusD_ok (d : Nat) (p q : Q3) : (plusD d p q).Ok := ⟨mP_lt _ _, mP_lt _ _, mP_lt _ _⟩
theorem crvD_lt : crvD < P := mP_lt _ _
def addS (d : Nat) (s t : ByteArray) : ByteArray := if (pofB d s && pofB d t) = true then codeD (plusD d (pofQ d s) (pofQ d t)) else ⟨#[]⟩
def addE (d : Nat) (s t : ByteArray) : Int := if (pofB d s && pofB d t) = true then 0 else 2
section
attribute [local irreducible] fA fL qA crvD pofB pofQ codeD plusD
set_option maxRecDepth 100000 in
set_option maxHeartbeats 4000000 in
theorem refAddA (s t : ByteArray) (w : World) :
    Calls Tryd.prog 26 #[.string s, .string t] w fun e w' => e = .returned (.tuple #[.string (addS crvD s t), .int .i64 (addE crvD s t)]) ∧ Below w.heap.size w w' := by
  have hz := zeroFA
  have hzq := zeroQ
  have BL : Hid (Below w.heap.size w w) := Below.refl _ _
  go_enter Tryd.func26, Tryd.ntmps26
  go_wp2_with fail
  refine (curveA _).mono ?_
  rintro e W1 ⟨rfl, hB1⟩
  have BL : Hid (Below w.heap.size w W1) := BL.out.trans (hB1.mono BL.out.size)
  clear hB1
  obtain ⟨d, Ed⟩ : ∃ d, Hid (d = crvD) := ⟨_, rfl⟩
  have Hd : Hid (d < P) := by rw [Ed.out]; exact crvD_lt
  rw [← Ed.out]
  go_upto_region 2 with (first | (refine wpList_store_row (by rfl) 76 (.tmp 6) (.tmp 12) (by rfl) W1.heap.size (fA d) (by rfl) (by rfl) 76 _ (heap_alloc_new _ _) (fA_size _) (fA_old _ _) (fA_all _) ?_))
  obtain ⟨g6, hg6⟩ : ∃ q, q = W1.heap.size := ⟨_, rfl⟩
  obtain ⟨W2, hW2⟩ : ∃ W, W = (W1.alloc (.cells (fA 0) 76)).setRow W1.heap.size (fA d) := ⟨_, rfl⟩
  have RD : Hid (W2.heap[g6]? = some (.cells (fA d) 76 (0, 0))) := by rw [hW2, hg6]; exact setRow_heap _ _ _ _ _ _ (heap_alloc_new _ _)
  have BL' : Hid (Below w.heap.size w W2) := by rw [hW2]; exact below_setRow (BL.out.alloc BL.out.size _) BL.out.size _
  rw [← hW2, ← hg6]
  clear hW2 hg6 BL 
  have BL := BL'
  clear  BL'
  go_wp2_with (first | (refine wpList_load_row (by rfl) 76 (.tmp 6) (by rfl) (g6) (by rfl) 76 (fA d) (0, 0) _ RD.out underF rfl (fA_size _) ?_))
  refine (pointOfA d s Hd.out _).mono ?_
  rintro e W3 ⟨rfl, hB3⟩
  have RD := hide (row_keep' RD.out hB3)
  have BL : Hid (Below w.heap.size w W3) := BL.out.trans (hB3.mono BL.out.size)
  clear hB3
  obtain ⟨p, Ep⟩ : ∃ p, Hid (p = pofQ d s) := ⟨_, rfl⟩
  obtain ⟨b1, Eb1⟩ : ∃ b, Hid (b = pofB d s) := ⟨_, rfl⟩
  rw [← Ep.out, ← Eb1.out]
  go_upto_region 3 with (first | (refine wpList_store_row (by rfl) 79 (.tmp 7) (.tmp 17) (by rfl) W3.heap.size (qA p) (by rfl) (by rfl) 79 _ (heap_alloc_new _ _) (qA_size _) (qA_old _ _) (qA_all _) ?_))
  obtain ⟨g7, hg7⟩ : ∃ q, q = W3.heap.size := ⟨_, rfl⟩
  obtain ⟨W4, hW4⟩ : ∃ W, W = (W3.alloc (.cells (qA q0) 79)).setRow W3.heap.size (qA p) := ⟨_, rfl⟩
  have lRDg7 : g6 < g7 := by rw [hg7]; exact lt_row RD.out
  have RD' : Hid (W4.heap[g6]? = some (.cells (fA d) 76 (0, 0))) := by rw [hW4]; exact (setRow_other _ _ _ _ (by omega)).trans ((heap_alloc_old _ _ (by omega)).trans RD.out)
  have RP : Hid (W4.heap[g7]? = some (.cells (qA p) 79 (0, 0))) := by rw [hW4, hg7]; exact setRow_heap _ _ _ _ _ _ (heap_alloc_new _ _)
  have BL' : Hid (Below w.heap.size w W4) := by rw [hW4]; exact below_setRow (BL.out.alloc BL.out.size _) BL.out.size _
  rw [← hW4, ← hg7]
  clear hW4 hg7 BL RD
  have RD := RD'
  have BL := BL'
  clear RD' BL'
  go_wp2_with (first | (refine wpList_load_row (by rfl) 76 (.tmp 6) (by rfl) (g6) (by rfl) 76 (fA d) (0, 0) _ RD.out underF rfl (fA_size _) ?_))
  refine (pointOfA d t Hd.out _).mono ?_
  rintro e W5 ⟨rfl, hB5⟩
  have RD := hide (row_keep' RD.out hB5)
  have RP := hide (row_keep' RP.out hB5)
  have BL : Hid (Below w.heap.size w W5) := BL.out.trans (hB5.mono BL.out.size)
  clear hB5
  obtain ⟨q, Eq⟩ : ∃ p, Hid (p = pofQ d t) := ⟨_, rfl⟩
  obtain ⟨b2, Eb2⟩ : ∃ b, Hid (b = pofB d t) := ⟨_, rfl⟩
  rw [← Eq.out, ← Eb2.out]
  go_upto_region 4 with (first | (refine wpList_store_row (by rfl) 79 (.tmp 9) (.tmp 23) (by rfl) W5.heap.size (qA q) (by rfl) (by rfl) 79 _ (heap_alloc_new _ _) (qA_size _) (qA_old _ _) (qA_all _) ?_))
  obtain ⟨g9, hg9⟩ : ∃ q, q = W5.heap.size := ⟨_, rfl⟩
  obtain ⟨W6, hW6⟩ : ∃ W, W = (W5.alloc (.cells (qA q0) 79)).setRow W5.heap.size (qA q) := ⟨_, rfl⟩
  have lRDg9 : g6 < g9 := by rw [hg9]; exact lt_row RD.out
  have lRPg9 : g7 < g9 := by rw [hg9]; exact lt_row RP.out
  have RD' : Hid (W6.heap[g6]? = some (.cells (fA d) 76 (0, 0))) := by rw [hW6]; exact (setRow_other _ _ _ _ (by omega)).trans ((heap_alloc_old _ _ (by omega)).trans RD.out)
  have RP' : Hid (W6.heap[g7]? = some (.cells (qA p) 79 (0, 0))) := by rw [hW6]; exact (setRow_other _ _ _ _ (by omega)).trans ((heap_alloc_old _ _ (by omega)).trans RP.out)
  have RQ : Hid (W6.heap[g9]? = some (.cells (qA q) 79 (0, 0))) := by rw [hW6, hg9]; exact setRow_heap _ _ _ _ _ _ (heap_alloc_new _ _)
  have BL' : Hid (Below w.heap.size w W6) := by rw [hW6]; exact below_setRow (BL.out.alloc BL.out.size _) BL.out.size _
  rw [← hW6, ← hg9]
  clear hW6 hg9 BL RD RP
  have RD := RD'
  have RP := RP'
  have BL := BL'
  clear RD' RP' BL'
  cases b1
  case false =>
    go_wp2_with fail
    go_returns
    exact ⟨by unfold addS addE; rw [← Ed.out, ← Eb1.out, ← Eb2.out]; rfl, BL.out⟩
  case true =>
  cases b2
  case false =>
    go_wp2_with fail
    go_returns
    exact ⟨by unfold addS addE; rw [← Ed.out, ← Eb1.out, ← Eb2.out]; rfl, BL.out⟩
  case true =>
  have Hpo : Hid (p.Ok) := by rw [Ep.out]; exact pofQ_ok _ _
  have Hqo : Hid (q.Ok) := by rw [Eq.out]; exact pofQ_ok _ _
  go_upto_region 6 with fail
  go_wp2_with (first | (refine wpList_load_row (by rfl) 76 (.tmp 6) (by rfl) (g6) (by rfl) 76 (fA d) (0, 0) _ RD.out underF rfl (fA_size _) ?_) | (refine wpList_load_row (by rfl) 79 (.tmp 7) (by rfl) (g7) (by rfl) 79 (qA p) (0, 0) _ RP.out Tryd.underlying79 rfl (qA_size _) ?_) | (refine wpList_load_row (by rfl) 79 (.tmp 9) (by rfl) (g9) (by rfl) 79 (qA q) (0, 0) _ RQ.out Tryd.underlying79 rfl (qA_size _) ?_))
  refine (plusA d p q Hd.out Hpo.out Hqo.out _).mono ?_
  rintro e W7 ⟨rfl, hB7⟩
  have RD := hide (row_keep' RD.out hB7)
  have RP := hide (row_keep' RP.out hB7)
  have RQ := hide (row_keep' RQ.out hB7)
  have BL : Hid (Below w.heap.size w W7) := BL.out.trans (hB7.mono BL.out.size)
  clear hB7
  obtain ⟨r, Er⟩ : ∃ r, Hid (r = plusD d p q) := ⟨_, rfl⟩
  have Hro : Hid (r.Ok) := by rw [Er.out]; exact plusD_ok _ _ _
  rw [← Er.out]
  go_upto_region 7 with (first | (refine wpList_store_row (by rfl) 79 (.tmp 11) (.tmp 34) (by rfl) W7.heap.size (qA r) (by rfl) (by rfl) 79 _ (heap_alloc_new _ _) (qA_size _) (qA_old _ _) (qA_all _) ?_))
  obtain ⟨g11, hg11⟩ : ∃ q, q = W7.heap.size := ⟨_, rfl⟩
  obtain ⟨W8, hW8⟩ : ∃ W, W = (W7.alloc (.cells (qA q0) 79)).setRow W7.heap.size (qA r) := ⟨_, rfl⟩
  have lRDg11 : g6 < g11 := by rw [hg11]; exact lt_row RD.out
  have lRPg11 : g7 < g11 := by rw [hg11]; exact lt_row RP.out
  have lRQg11 : g9 < g11 := by rw [hg11]; exact lt_row RQ.out
  have RD' : Hid (W8.heap[g6]? = some (.cells (fA d) 76 (0, 0))) := by rw [hW8]; exact (setRow_other _ _ _ _ (by omega)).trans ((heap_alloc_old _ _ (by omega)).trans RD.out)
  have RP' : Hid (W8.heap[g7]? = some (.cells (qA p) 79 (0, 0))) := by rw [hW8]; exact (setRow_other _ _ _ _ (by omega)).trans ((heap_alloc_old _ _ (by omega)).trans RP.out)
  have RQ' : Hid (W8.heap[g9]? = some (.cells (qA q) 79 (0, 0))) := by rw [hW8]; exact (setRow_other _ _ _ _ (by omega)).trans ((heap_alloc_old _ _ (by omega)).trans RQ.out)
  have RR : Hid (W8.heap[g11]? = some (.cells (qA r) 79 (0, 0))) := by rw [hW8, hg11]; exact setRow_heap _ _ _ _ _ _ (heap_alloc_new _ _)
  have BL' : Hid (Below w.heap.size w W8) := by rw [hW8]; exact below_setRow (BL.out.alloc BL.out.size _) BL.out.size _
  rw [← hW8, ← hg11]
  clear hW8 hg11 BL RD RP RQ
  have RD := RD'
  have RP := RP'
  have RQ := RQ'
  have BL := BL'
  clear RD' RP' RQ' BL'
  go_wp2_with (first | (refine wpList_load_row (by rfl) 79 (.tmp 11) (by rfl) (g11) (by rfl) 79 (qA r) (0, 0) _ RR.out Tryd.underlying79 rfl (qA_size _) ?_))
  refine (codeA r Hro.out _).mono ?_
  rintro e W9 ⟨rfl, hB9⟩
  have RD := hide (row_keep' RD.out hB9)
  have RP := hide (row_keep' RP.out hB9)
  have RQ := hide (row_keep' RQ.out hB9)
  have RR := hide (row_keep' RR.out hB9)
  have BL : Hid (Below w.heap.size w W9) := BL.out.trans (hB9.mono BL.out.size)
  clear hB9
  go_wp2_with fail
  go_returns
  refine ⟨?_, BL.out⟩
  unfold addS addE; rw [← Ed.out, ← Eb1.out, ← Eb2.out, ← Ep.out, ← Eq.out, ← Er.out]; rfl
end
end Go.Proofs.YtemdlpcljjdfjaaDoor
