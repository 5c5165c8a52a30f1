import Derived.LaidSub
import Derived.Test.YtccgfabojbjmjaaGreatDoorVe30
import Derived.Test.YtccgfabojbjmjaaGreatDoorVe29
import Derived.Test.YtccgfabojbjmjaaGreatDoorVe26
import Derived.Deep.RegionHeld3
import Derived.Deep.DrawnRows
import Derived.BigRegion
namespace Go.Proofs.YtccgfabojbjmjaaGreatDoor
open Go.ChangeShapes Go.WideShapes Go.ChangeAt Go.RowKit
theorem cellsEl : Tryz.prog.cellsOf 80 = 4 := by kernel_rfl
theorem el_row {W : World} {nm : String} {g : Nat} {zs : List Int} {n : Nat} (hg : Tryz.prog.globalNamed nm = some g) (hn : (zs.map fun z => Value.int .u64 z).toArray = num4A n) (t : Lib.TabIs Tryz.prog W nm .u64 zs) : ∃ T fr, W.heap[g]? = some (.cells (num4A n) T fr) := by
 unfold Lib.TabIs World.var? at t
 rw [hg] at t
 simp only [Option.bind_some] at t
 split at t
 ·
  rename_i cs ty fr h
  refine ⟨ty, fr, h.trans ?_⟩
  rw [Option.some.inj t, ← hn]
 · cases t
theorem gvM : Tryz.prog.globalNamed "latch/field.modulus" = some 10 := by kernel_rfl
theorem gtM : (Tryz.prog.globals[10]?).map (·.type) = some 80 := by kernel_rfl
def intsM : List Int := [18446744073709551597, 18446744073709551615, 18446744073709551615, 9223372036854775807]
theorem laidM : (Rows.laid_latch_field_modulus : DataW Unit) = Lib.tabData .u64 intsM := by kernel_rfl
theorem numM : (intsM.map fun z => Value.int .u64 z).toArray = num4A P := by kernel_rfl
theorem gvR : Tryz.prog.globalNamed "latch/field.rootOfMinusOne" = some 12 := by kernel_rfl
theorem gtR : (Tryz.prog.globals[12]?).map (·.type) = some 80 := by kernel_rfl
def intsR : List Int := [14190309331451158704, 3405592160176694392, 3120150775007532967, 3135389899092516619]
theorem laidR : (Rows.laid_latch_field_rootOfMinusOne : DataW Unit) = Lib.tabData .u64 intsR := by kernel_rfl
theorem numR : (intsR.map fun z => Value.int .u64 z).toArray = num4A rmN := by kernel_rfl
theorem gvO : Tryz.prog.globalNamed "latch/curve.one" = some 8 := by kernel_rfl
theorem gtO : (Tryz.prog.globals[8]?).map (·.type) = some 80 := by kernel_rfl
def intsO : List Int := [1, 0, 0, 0]
theorem laidO : (Rows.laid_latch_curve_one : DataW Unit) = Lib.tabData .u64 intsO := by kernel_rfl
theorem numO : (intsO.map fun z => Value.int .u64 z).toArray = num4A 1 := by kernel_rfl
theorem gvD : Tryz.prog.globalNamed "latch/curve.d" = some 11 := by kernel_rfl
theorem gtD : (Tryz.prog.globals[11]?).map (·.type) = some 80 := by kernel_rfl
def intsD : List Int := [8496970652267935907, 31536524315187371, 10144147576115030168, 5909686906226998899]
theorem laidD : (Rows.laid_latch_curve_d : DataW Unit) = Lib.tabData .u64 intsD := by kernel_rfl
theorem numD : (intsD.map fun z => Value.int .u64 z).toArray = num4A dN := by kernel_rfl
theorem gvT : Tryz.prog.globalNamed "latch/curve.twoD" = some 5 := by kernel_rfl
theorem gtT : (Tryz.prog.globals[5]?).map (·.type) = some 80 := by kernel_rfl
def intsT : List Int := [16993941304535871833, 63073048630374742, 1841551078520508720, 2596001775599221991]
theorem laidT : (Rows.laid_latch_curve_twoD : DataW Unit) = Lib.tabData .u64 intsT := by kernel_rfl
theorem numT : (intsT.map fun z => Value.int .u64 z).toArray = num4A (mP 2 dN) := by kernel_rfl
def putR (i : Nat) (cs : Array Value) (h : Array Obj) : Array Obj := h.modify i fun
 | .cells _ t frozen => .cells cs t frozen
 | o => o
noncomputable def laidWorldA (os : Os) : World :=
 { World.holding Tryz.prog os ⟨#[], #[], []⟩ with heap := putR 5 #[.int .u64 16993941304535871833, .int .u64 63073048630374742, .int .u64 1841551078520508720, .int .u64 2596001775599221991] (putR 11 #[.int .u64 8496970652267935907, .int .u64 31536524315187371, .int .u64 10144147576115030168, .int .u64 5909686906226998899] (putR 8 #[.int .u64 1, .int .u64 0, .int .u64 0, .int .u64 0] (putR 12 #[.int .u64 14190309331451158704, .int .u64 3405592160176694392, .int .u64 3120150775007532967, .int .u64 3135389899092516619] (putR 10 #[.int .u64 18446744073709551597, .int .u64 18446744073709551615, .int .u64 18446744073709551615, .int .u64 9223372036854775807] ((World.holding Tryz.prog os ⟨#[], #[], []⟩).heap))))) }
theorem fc0' (r : Nat) : (fd r).getD 0 0 = ((r % 67108864 : Nat) : Int) := by rw [fd_get r 0 (by decide), Nat.pow_zero, Nat.div_one]
def codeD (p : Q3) : ByteArray := strOf (leB (codeN (mP p.y (invD p.z)) (decide (mP p.x (invD p.z) % 2 = 1))) 32)
section
attribute [local irreducible] fA fL qA
set_option maxRecDepth 100000 in
set_option maxHeartbeats 4000000 in
theorem codeA (p : Q3) (hp : p.Ok) (w : World) :
  Calls Tryz.prog 36 #[.agg (qA p)] w fun e w' => e = .returned (.string (codeD p)) ∧ Below w.heap.size w w' := by
 have hz := zeroFA
 have Hp := hide hp
 clear hp
 go_enter Tryz.func36, Tryz.ntmps36
 go_upto_region 1 with fail
 obtain ⟨W0, hW0⟩ : ∃ W, W = w.alloc (.cells (qA p) 98) := ⟨_, rfl⟩
 have RP : Hid (W0.heap[w.heap.size]? = some (.cells (qA p) 98 (0, 0))) := by rw [hW0]; exact heap_alloc_new _ _
 have BL : Hid (Below w.heap.size w W0) := by rw [hW0]; show Below _ _ _; go_grown
 rw [← hW0]
 clear hW0
 go_wp2_with (first | (refine wpList_load_mid (by rfl) 95 (.tmp 6) (by rfl) (w.heap.size) 20 (by rfl) (fL p.z) _ (rangeQ RP.out).2.2 underF rfl (fL_size _) ?_))
 simp only [foldL]
 refine (inverseA p.z Hp.out.z _).mono ?_
 rintro e W1 ⟨rfl, hB1⟩
 have RP := hide (row_keep' RP.out hB1)
 have BL := kTr BL hB1
 clear hB1
 obtain ⟨i, Ei⟩ : ∃ x, Hid (x = invD p.z) := ⟨_, rfl⟩
 have Hi : Hid (i < P) := by rw [Ei.out]; exact invD_lt _
 rw [← Ei.out]
 go_upto_region 2 with (first | (refine wpList_store_row (by rfl) 95 (.tmp 3) (.tmp 8) (by rfl) W1.heap.size (fA i) (by rfl) (by rfl) 95 _ (heap_alloc_new _ _) (fA_size _) (fA_old _ _) (fA_all _) ?_))
 obtain ⟨g3, hg3⟩ : ∃ q, q = W1.heap.size := ⟨_, rfl⟩
 obtain ⟨W2, hW2⟩ : ∃ W, W = (W1.alloc (.cells (fA 0) 95)).setRow W1.heap.size (fA i) := ⟨_, rfl⟩
 have lRPg3 : w.heap.size < g3 := by rw [hg3]; exact lt_row RP.out
 have RP' : Hid (W2.heap[w.heap.size]? = some (.cells (qA p) 98 (0, 0))) := by rw [hW2]; exact (setRow_other _ _ _ _ (by omega)).trans ((heap_alloc_old _ _ (by omega)).trans RP.out)
 have RI : Hid (W2.heap[g3]? = some (.cells (fA i) 95 (0, 0))) := by rw [hW2, hg3]; exact setRow_heap _ _ _ _ _ _ (heap_alloc_new _ _)
 have BL' : Hid (Below w.heap.size w W2) := by rw [hW2]; exact below_setRow (BL.out.alloc BL.out.size _) BL.out.size _
 rw [← hW2, ← hg3]
 clear hW2 hg3 BL RP
 have RP := RP'
 have BL := BL'
 clear RP' BL'
 go_wp2_with (first | (refine wpList_load_mid (by rfl) 95 (.tmp 9) (by rfl) (w.heap.size) 0 (by rfl) (fL p.x) _ (rangeQ RP.out).1 underF rfl (fL_size _) ?_) | (refine wpList_load_row (by rfl) 95 (.tmp 3) (by rfl) (g3) (by rfl) 95 (fA i) (0, 0) _ RI.out underF rfl (fA_size _) ?_))
 simp only [foldL]
 refine (mulA p.x i Hp.out.x Hi.out _).mono ?_
 rintro e W3 ⟨rfl, hB3⟩
 have RP := hide (row_keep' RP.out hB3)
 have RI := hide (row_keep' RI.out hB3)
 have BL := kTr BL hB3
 clear hB3
 obtain ⟨x, Ex⟩ : ∃ x, Hid (x = mP p.x i) := ⟨_, rfl⟩
 have Hx : Hid (x < P) := by rw [Ex.out]; exact mP_lt _ _
 rw [← Ex.out]
 go_upto_region 3 with (first | (refine wpList_store_row (by rfl) 95 (.tmp 4) (.tmp 12) (by rfl) W3.heap.size (fA x) (by rfl) (by rfl) 95 _ (heap_alloc_new _ _) (fA_size _) (fA_old _ _) (fA_all _) ?_))
 obtain ⟨g4, hg4⟩ : ∃ q, q = W3.heap.size := ⟨_, rfl⟩
 obtain ⟨W4, hW4⟩ : ∃ W, W = (W3.alloc (.cells (fA 0) 95)).setRow W3.heap.size (fA x) := ⟨_, rfl⟩
 have lRPg4 : w.heap.size < g4 := by rw [hg4]; exact lt_row RP.out
 have lRIg4 : g3 < g4 := by rw [hg4]; exact lt_row RI.out
 have RP' : Hid (W4.heap[w.heap.size]? = some (.cells (qA p) 98 (0, 0))) := by rw [hW4]; exact (setRow_other _ _ _ _ (by omega)).trans ((heap_alloc_old _ _ (by omega)).trans RP.out)
 have RI' : Hid (W4.heap[g3]? = some (.cells (fA i) 95 (0, 0))) := by rw [hW4]; exact (setRow_other _ _ _ _ (by omega)).trans ((heap_alloc_old _ _ (by omega)).trans RI.out)
 have RX : Hid (W4.heap[g4]? = some (.cells (fA x) 95 (0, 0))) := by rw [hW4, hg4]; exact setRow_heap _ _ _ _ _ _ (heap_alloc_new _ _)
 have BL' : Hid (Below w.heap.size w W4) := by rw [hW4]; exact below_setRow (BL.out.alloc BL.out.size _) BL.out.size _
 rw [← hW4, ← hg4]
 clear hW4 hg4 BL RP RI
 have RP := RP'
 have RI := RI'
 have BL := BL'
 clear RP' RI' BL'
 go_wp2_with (first | (refine wpList_load_mid (by rfl) 95 (.tmp 13) (by rfl) (w.heap.size) 10 (by rfl) (fL p.y) _ (rangeQ RP.out).2.1 underF rfl (fL_size _) ?_) | (refine wpList_load_row (by rfl) 95 (.tmp 3) (by rfl) (g3) (by rfl) 95 (fA i) (0, 0) _ RI.out underF rfl (fA_size _) ?_))
 simp only [foldL]
 refine (mulA p.y i Hp.out.y Hi.out _).mono ?_
 rintro e W5 ⟨rfl, hB5⟩
 have RP := hide (row_keep' RP.out hB5)
 have RI := hide (row_keep' RI.out hB5)
 have RX := hide (row_keep' RX.out hB5)
 have BL := kTr BL hB5
 clear hB5
 obtain ⟨y, Ey⟩ : ∃ x, Hid (x = mP p.y i) := ⟨_, rfl⟩
 have Hy : Hid (y < P) := by rw [Ey.out]; exact mP_lt _ _
 rw [← Ey.out]
 go_upto_region 4 with (first | (refine wpList_store_row (by rfl) 95 (.tmp 5) (.tmp 16) (by rfl) W5.heap.size (fA y) (by rfl) (by rfl) 95 _ (heap_alloc_new _ _) (fA_size _) (fA_old _ _) (fA_all _) ?_))
 obtain ⟨g5, hg5⟩ : ∃ q, q = W5.heap.size := ⟨_, rfl⟩
 obtain ⟨W6, hW6⟩ : ∃ W, W = (W5.alloc (.cells (fA 0) 95)).setRow W5.heap.size (fA y) := ⟨_, rfl⟩
 have lRPg5 : w.heap.size < g5 := by rw [hg5]; exact lt_row RP.out
 have lRIg5 : g3 < g5 := by rw [hg5]; exact lt_row RI.out
 have lRXg5 : g4 < g5 := by rw [hg5]; exact lt_row RX.out
 have RP' : Hid (W6.heap[w.heap.size]? = some (.cells (qA p) 98 (0, 0))) := by rw [hW6]; exact (setRow_other _ _ _ _ (by omega)).trans ((heap_alloc_old _ _ (by omega)).trans RP.out)
 have RI' : Hid (W6.heap[g3]? = some (.cells (fA i) 95 (0, 0))) := by rw [hW6]; exact (setRow_other _ _ _ _ (by omega)).trans ((heap_alloc_old _ _ (by omega)).trans RI.out)
 have RX' : Hid (W6.heap[g4]? = some (.cells (fA x) 95 (0, 0))) := by rw [hW6]; exact (setRow_other _ _ _ _ (by omega)).trans ((heap_alloc_old _ _ (by omega)).trans RX.out)
 have RY : Hid (W6.heap[g5]? = some (.cells (fA y) 95 (0, 0))) := by rw [hW6, hg5]; exact setRow_heap _ _ _ _ _ _ (heap_alloc_new _ _)
 have BL' : Hid (Below w.heap.size w W6) := by rw [hW6]; exact below_setRow (BL.out.alloc BL.out.size _) BL.out.size _
 rw [← hW6, ← hg5]
 clear hW6 hg5 BL RP RI RX
 have RP := RP'
 have RI := RI'
 have RX := RX'
 have BL := BL'
 clear RP' RI' RX' BL'
 clear hz
 have cx := ivs_get (l := fd x) (T := 95) (fr := (0, 0)) (by have e := RX.out; unfold fA at e; exact e) 0 (by rw [fd_length]; decide)
 obtain ⟨z, HZ⟩ : ∃ z, Hid (z = (fd x).getD 0 0) := ⟨_, rfl⟩
 rw [← HZ.out] at cx
 have z0 : 0 ≤ z := by rw [HZ.out, fc0']; omega
 have hodd : (z % 2 == 1) = decide (x % 2 = 1) := by
  rw [HZ.out, fc0']
  by_cases h : x % 2 = 1
  · rw [decide_eq_true h, beq_iff_eq]; omega
  · rw [decide_eq_false h, beq_eq_false_iff_ne]; omega
 obtain ⟨ob, Eo⟩ : ∃ b, Hid (b = decide (x % 2 = 1)) := ⟨_, rfl⟩
 rw [← Eo.out] at hodd
 go_wp2_with (first | (refine wpList_load_row (by rfl) 95 (.tmp 5) (by rfl) (g5) (by rfl) 95 (fA y) (0, 0) _ RY.out underF rfl (fA_size _) ?_))
 refine (textA y ob Hy.out _).mono ?_
 rintro e W7 ⟨rfl, hB7⟩
 have RP := hide (row_keep' RP.out hB7)
 have RI := hide (row_keep' RI.out hB7)
 have RX := hide (row_keep' RX.out hB7)
 have RY := hide (row_keep' RY.out hB7)
 have BL := kTr BL hB7
 clear hB7
 obtain ⟨T, HT⟩ : ∃ T, Hid (T = strOf (leB (codeN y ob) 32)) := ⟨_, rfl⟩
 rw [← HT.out]
 go_wp2_with fail
 go_ret
 exact ⟨by rw [HT.out, Eo.out, Ey.out, Ex.out, Ei.out]; rfl, BL.out⟩
end
end Go.Proofs.YtccgfabojbjmjaaGreatDoor
namespace Go.Proofs.YtccgfabojbjmjaaGreatDoor
theorem onesN_pow (a : Nat) : ∀ n, Cg a (onesN a n) (2 ^ n - 1)
 | 0 => by unfold Cg onesN; rw [Nat.pow_zero]
 | n + 1 => by
  have c := (((onesN_pow a n).sqN 1).mP (Cg.one a))
  refine Cg.cast (e := (2 ^ n - 1) * 2 ^ 1 + 1) c ?_
  have : 0 < 2 ^ n := Nat.pow_pos (by decide)
  rw [Nat.pow_succ 2 n, Nat.pow_one]
  omega
theorem Cg.eq {a x e : Nat} (h : Cg a x e) (hx : x < P) : x = pwP a e := by
 unfold Cg at h
 rw [Nat.mod_eq_of_lt hx] at h
 exact h
theorem invD_invN (a : Nat) : invD a = invN a := by
 rw [invN_pw]
 have c1 := Cg.one a
 have c := ((((((((onesN_pow a 250).sqN 2).mP c1).sqN 2).mP c1).sqN 1).mP c1))
 refine (Cg.cast c ?_).eq (invD_lt a)
 decide +kernel
theorem m1D_rmN : m1D = rmN := by
 rw [← rmN_pw]
 have c1 := Cg.one 2
 have c := ((((onesN_pow 2 250).sqN 2).mP c1).sqN 1).mP c1
 refine (Cg.cast c ?_).eq (mP_lt _ _)
 decide +kernel
theorem k66_pw : pwP 121666 Pm2 = 37095705934669439343138083508754565189542113879843219016388785533085940283556 := pw_of_pm 121666 Pm2 _ 255 (by decide +kernel) (by decide +kernel)
theorem crvD_dN : crvD = dN := by
 unfold crvD
 rw [invD_invN, invN_pw, k66_pw]
 decide +kernel
theorem rxD_0 (a : Nat) : rxD a 0 = pwP a (E8 + 1) := by
 have c : Cg a (sqN 1 (onesN a 251)) ((2 ^ 251 - 1) * 2 ^ 1) := (onesN_pow a 251).sqN 1
 have e : rxD a 0 = sqN 1 (onesN a 251) := mP_one (sqN_lt 1 _ (onesN_lt _ _))
 rw [e]
 refine (Cg.cast c ?_).eq (sqN_lt 1 _ (onesN_lt _ _))
 decide +kernel
theorem vN_lt (y : Nat) : vN y < P := aP_lt _ _
theorem uN_lt (y : Nat) : uN y < P := sP_lt _ _
theorem pofA_eq (y : Nat) : pofA dN y = mP (uN y) (invN (vN y)) := by
 unfold pofA uN vN
 rw [invD_invN, mP_comm dN]
theorem rx0_rt (y : Nat) : rxD (pofA dN y) 0 = rtN (uN y) (vN y) := by
 rw [rxD_0, pofA_eq, root_same (uN_lt y) (vN_lt y) (vN_ne y)]
theorem rx1_rt (y : Nat) : rxD (pofA dN y) 1 = mP (rtN (uN y) (vN y)) rmN := by
 show mP (rxD (pofA dN y) 0) m1D = _
 rw [rx0_rt, m1D_rmN]
theorem t1 (y : Nat) : mP (rxD (pofA dN y) 0) (rxD (pofA dN y) 0) = pofA dN y ↔ sqrN (uN y) (vN y) = uN y := by
 rw [test_one (uN_lt y) (vN_ne y), rx0_rt, pofA_eq]
theorem t2 (y : Nat) : mP (rxD (pofA dN y) 1) (rxD (pofA dN y) 1) = pofA dN y ↔ sqrN (uN y) (vN y) = sP 0 (uN y) := by
 rw [test_two (uN_lt y) (vN_ne y), rx1_rt, test_doc (pofA_lt _ _), pofA_eq]
theorem pofR_root (y : Nat) : pofR dN y = rootV (uN y) (vN y) := by
 unfold pofR rootDV rootV
 simp only [t1, t2]
 rw [rx0_rt, rx1_rt]
theorem rootDB_root (y : Nat) : rootDB (pofA dN y) = rootB (uN y) (vN y) := by
 unfold rootDB rootB
 simp only [t1, t2]
theorem xs_same (y : Nat) (odd : Bool) : pofX dN y odd = xsN y odd := by
 unfold pofX xsN
 rw [pofR_root]
theorem ok_same (y : Nat) (odd : Bool) : (rootDB (pofA dN y) && !(decide (pofR dN y = 0) && odd)) = xofB y odd := by
 unfold xofB
 rw [rootDB_root, pofR_root]
 cases hb : rootB (uN y) (vN y)
 · simp
 ·
  simp only [if_true, Bool.true_and]
  unfold xsN
  have hl := rootV_lt (uN y) (vN y)
  generalize rootV (uN y) (vN y) = r at *
  by_cases h0 : r = 0
  ·
   subst h0
   cases odd
   · decide +kernel
   · decide +kernel
  ·
   have hop := opp_odd hl h0
   rw [decide_eq_false h0]
   simp only [Bool.false_and, Bool.not_false]
   by_cases hp : r % 2 = 1
   ·
    cases odd
    ·
     simp only [hp, decide_true]
     have : ¬ sP 0 r % 2 = 1 := by rw [hop]; omega
     simp [this]
    · simp [hp]
   ·
    cases odd
    · simp [hp]
    ·
     have : sP 0 r % 2 = 1 := by rw [hop]; omega
     simp [hp, this]
theorem q0_ok : q0.Ok := ⟨P_pos, P_pos, P_pos⟩
theorem pofX_lt (d y : Nat) (odd : Bool) : pofX d y odd < P := by
 unfold pofX; split
 · exact sP_lt _ _
 · exact rootDV_lt _
theorem pofQ_ok (d : Nat) (s : ByteArray) : (pofQ d s).Ok := by
 unfold pofQ; split
 · exact ⟨pofX_lt _ _ _, Nat.mod_lt _ P_pos, oneP⟩
 · exact q0_ok
theorem plusD_ok (d : Nat) (p q : Q3) : (plusD d p q).Ok := ⟨mP_lt _ _, mP_lt _ _, mP_lt _ _⟩
theorem crvD_lt : crvD < P := mP_lt _ _
end Go.Proofs.YtccgfabojbjmjaaGreatDoor
namespace Go.Proofs.YtccgfabojbjmjaaGreatDoor
open Go.RowKit
theorem ofb_iff (m : Nat) : ofbB m = decide (m = m % P) := by
 unfold ofbB
 congr 1
 apply propext
 constructor
 · intro h; exact (Nat.mod_eq_of_lt h).symm
 · intro h; rw [h]; exact Nat.mod_lt _ P_pos
theorem ks_32 {s : ByteArray} (h : s.size = 32) : ksN s = valLE (bytesOf s) := by unfold ksN ksB; rw [if_pos h]
theorem dcY_yOf {s : ByteArray} (h : s.size = 32) : dcY (ksN s) = yOf s := by rw [ks_32 h]; rfl
theorem dcO_odd {s : ByteArray} (h : s.size = 32) : dcO (ksN s) = oddOf s := by
 rw [← dcO_top _ (ksN_lt s)]
 unfold oddOf
 rw [byteLE_nat, ks_32 h, valLE_byte]
theorem poB_32 {s : ByteArray} (h : s.size = 32) : poB s = pofB dN s := by
 unfold poB pofB dcB ksO
 rw [dcY_yOf h, dcO_odd h, decide_eq_true h, Bool.true_and, Bool.true_and, ofb_iff]
 by_cases hy : yOf s = yOf s % P
 ·
  rw [decide_eq_true hy, Bool.true_and, Bool.true_and]
  have e : ofbV (yOf s) = yOf s % P := by
   unfold ofbV
   rw [if_pos (by rw [hy]; exact Nat.mod_lt _ P_pos)]; exact hy
  rw [e, ok_same]
 · rw [decide_eq_false hy, Bool.false_and, Bool.false_and]
theorem poB_same (s : ByteArray) : poB s = pofB dN s := by
 by_cases h : s.size = 32
 · exact poB_32 h
 ·
  unfold poB pofB ksO
  rw [decide_eq_false h, Bool.false_and, Bool.false_and]
theorem pofB_parts {s : ByteArray} (h : pofB dN s = true) : s.size = 32 ∧ yOf s = yOf s % P ∧ rootDB (pofA dN (yOf s % P)) = true := by
 unfold pofB at h
 rw [Bool.and_eq_true, Bool.and_eq_true, Bool.and_eq_true] at h
 exact ⟨of_decide_eq_true h.1, of_decide_eq_true h.2.1, h.2.2.1⟩
theorem point_same {s : ByteArray} (h : pofB dN s = true) : ∃ x y, x < P ∧ y < P ∧ poP s = ptOf x y ∧ pofQ dN s = q3Of x y := by
 obtain ⟨h32, hy, hr⟩ := pofB_parts h
 have hb : poB s = true := by rw [poB_same]; exact h
 have hd : dcB (ksN s) = true := by
  unfold poB at hb
  rw [Bool.and_eq_true] at hb
  exact hb.2
 refine ⟨xsN (yOf s % P) (oddOf s), yOf s % P, ?_, Nat.mod_lt _ P_pos, ?_, ?_⟩
 · rw [← xs_same]; exact pofX_lt _ _ _
 ·
  unfold poP
  rw [hb, if_pos rfl]
  unfold dcP
  rw [hd, if_pos rfl, dcY_yOf h32, dcO_odd h32]
  have e : ofbV (yOf s) = yOf s % P := by
   unfold ofbV
   rw [if_pos (by rw [hy]; exact Nat.mod_lt _ P_pos)]; exact hy
  rw [e]
  unfold xofV
  rw [← rootDB_root, hr, if_pos rfl]
 ·
  unfold pofQ
  rw [h, if_pos rfl, xs_same]
  rfl
def ivH : S8 := ⟨7640891576956012808#64, 13503953896175478587#64, 4354685564936845355#64, 11912009170470909681#64, 5840696475078001361#64, 11170449401992604703#64, 2270897969802886507#64, 6620516959819538809#64⟩
def H0 : HS := ⟨ivH, List.replicate 128 0, 0⟩
theorem H0_len : H0.blk.length = 128 := by simp [H0]
def r0 : Array Value := H0.row.toArray
theorem built47 : Tryz.prog.built 163 [(0, .int .u64 7640891576956012808), (1, .int .u64 13503953896175478587), (2, .int .u64 4354685564936845355), (3, .int .u64 11912009170470909681), (4, .int .u64 5840696475078001361), (5, .int .u64 11170449401992604703), (6, .int .u64 2270897969802886507), (7, .int .u64 6620516959819538809)] = some (w8 ivH).toArray := by kernel_rfl
theorem built50 : Tryz.prog.built 166 [(0, .agg (w8 ivH).toArray)] = some r0 := by kernel_rfl
theorem wpList_build_to {P : Program} {ops : Array Oper} {rest : List Oper} {o : Oper} {a : Act} {w : World} {Q : Exit → Act → World → Prop} (hg : o.guard = none) (t : TypeId) (parts : Array (Nat × Operand)) (ho : o.op = .build t parts) (cells : Array Value)
  (hb : P.built t (parts.map fun (i, x) => (i, a.eval x)).toList = some cells) (h : wpList P ops Q rest (a.put o.dst (.agg cells)) w) : wpList P ops Q (o :: rest) a w :=
 wpList_build hg t parts ho (by rw [hb]; rfl) (by rw [hb]; exact h)
theorem r0_size : (Tryz.prog.info? 166).map (·.size) = some r0.size := by rw [sizeH]; simp [r0, H0.row_length H0_len]
theorem r0_zH : zH.size = r0.size := by
 have h1 : zH.size = 138 := by unfold zH; rw [List.size_toArray]; exact HS.row_length _ (by simp)
 rw [h1]; simp [r0, H0.row_length H0_len]
theorem r0_cell : r0.all (·.oneCell') = true := all_oneCell_toArray (row_cell H0)
section
set_option maxRecDepth 100000 in
set_option maxHeartbeats 4000000 in
theorem new_any (w : World) :
  Calls Tryz.prog 81 #[] w fun e w' => e = .returned (.agg r0) ∧ Below w.heap.size w w' := by
 have hzH := zeroH
 go_enter Tryz.func81, Tryz.ntmps81
 obtain ⟨fs, huH⟩ := underH
 have HU : Hid (Tryz.prog.underlying 166 = some (.struct fs)) := huH
 clear huH
 go_wp2_with (first
  | (refine wpList_build_to (by rfl) 163 _ (by rfl) (w8 ivH).toArray (by exact built47) ?_)
  | (refine wpList_build_to (by rfl) 166 _ (by rfl) r0 (by exact built50) ?_)
  | (refine wpList_store_row (by rfl) 166 (.tmp 0) (.tmp 2) (by rfl) w.heap.size r0 (by rfl) (by rfl) 166 _ (heap_alloc_new _ _) r0_size r0_zH r0_cell ?_))
 refine bodyPost_ret (v := .agg r0) (results_cell_row Tryz.results81 _ _ w.heap.size 166 r0 (0, 0) _ (by rfl) (setRow_heap _ _ _ _ _ _ (heap_alloc_new _ _)) HU.out rfl r0_size) rfl ⟨rfl, below_setRow ((Below.refl _ _).alloc (Nat.le_refl _) _) (Nat.le_refl _) _⟩
noncomputable def hashOf (l : List UInt8) : List UInt8 := (H0.puts l).sum
theorem hashOf_length (l : List UInt8) : (hashOf l).length = 64 := HS.sum_length _
end
theorem choose_or (x y z : BitVec 64) : x &&& y ||| ~~~x &&& z = chooseW x y z := by
 unfold chooseW
 apply BitVec.eq_of_getLsbD_eq
 intro i hi
 simp only [BitVec.getLsbD_or, BitVec.getLsbD_and, BitVec.getLsbD_not, BitVec.getLsbD_xor, hi, decide_true, Bool.true_and]
 cases x.getLsbD i <;> cases y.getLsbD i <;> cases z.getLsbD i <;> rfl
theorem majority_or (x y z : BitVec 64) : x &&& y ||| x &&& z ||| y &&& z = majorityW x y z := by
 unfold majorityW
 apply BitVec.eq_of_getLsbD_eq
 intro i hi
 simp only [BitVec.getLsbD_or, BitVec.getLsbD_and, BitVec.getLsbD_xor]
 cases x.getLsbD i <;> cases y.getLsbD i <;> cases z.getLsbD i <;> rfl
theorem next_ref (l : List (BitVec 64)) (n : Nat) :
  smallSigma0W (l.getD (n + 1) 0) + smallSigma1W (l.getD (n + 14) 0) + l.getD n 0 + l.getD (n + 9) 0 = nextW l n := by
 unfold nextW; ac_rfl
theorem step_ref (kk ww : BitVec 64) (s : S8) :
  (⟨(s.h + chooseW s.e s.f s.g + kk + ww + bigSigma1W s.e) + (majorityW s.a s.b s.c + bigSigma0W s.a), s.a, s.b, s.c,
   s.d + (s.h + chooseW s.e s.f s.g + kk + ww + bigSigma1W s.e), s.e, s.f, s.g⟩ : S8) = stepW kk ww s := by
 unfold stepW
 have e : s.h + chooseW s.e s.f s.g + kk + ww + bigSigma1W s.e = s.h + bigSigma1W s.e + chooseW s.e s.f s.g + kk + ww := by ac_rfl
 rw [e, BitVec.add_comm (majorityW s.a s.b s.c)]
def chunk (p : List UInt8) (k : Nat) : List UInt8 := (p.drop (128 * k)).take 128
noncomputable def mixTo (p : List UInt8) (s : S8) : Nat → S8
 | 0 => s
 | k + 1 => mixS (mixTo p s k) (chunk p k)
theorem mixTo_succ (p : List UInt8) (s : S8) (k : Nat) : mixTo p s (k + 1) = (mixTo p s k).add (rnds (sch (chunk p k) 64) (mixTo p s k) 80) := by
 rw [← sch64_eq, ← rnd80_eq]; rfl
theorem padB_length (l : List UInt8) : ∃ m, (padBH l).length = 128 * (m + 1) ∧ (padBH l).length ≤ l.length + 145 := by
 have e : (padBH l).length = l.length + 1 + zcnt l.length + 16 := by unfold padBH; rw [List.length_append, padZ_length, cntRow_length]
 have h1 := zcnt_end l.length
 have h2 := zcnt_lt l.length
 rw [e]
 exact ⟨(l.length + 1 + zcnt l.length + 16) / 128 - 1, by omega, by omega⟩
theorem chunk_get (p : List UInt8) (k i : Nat) (h : i < 128) : (chunk p k).getD i 0 = p.getD (128 * k + i) 0 := by
 unfold chunk
 simp only [List.getD_eq_getElem?_getD, List.getElem?_take, h, if_pos, List.getElem?_drop]
theorem w16_chunk (p : List UInt8) (k t : Nat) (ht : t < 16) : w16 (chunk p k) t = be (fun i => p.getD (128 * k + 8 * t + i) 0) 8 := by
 unfold w16
 simp only [be]
 rw [chunk_get _ _ _ (by omega), chunk_get _ _ _ (by omega), chunk_get _ _ _ (by omega), chunk_get _ _ _ (by omega), chunk_get _ _ _ (by omega), chunk_get _ _ _ (by omega), chunk_get _ _ _ (by omega), chunk_get _ _ _ (by omega)]
 simp only [Nat.add_assoc]
theorem uvs_at {w : World} {g : Nat} {t : TypeId} {l : List (BitVec 64)} {fr : Nat × Nat} (h : w.heap[g]? = some (.cells (l.map uv).toArray t fr)) (i : Nat) (hi : i < l.length) : w.cell? ⟨g, i, none⟩ = some (.int .u64 (U (l.getD i 0))) := by
 rw [cell_of_row w g i _ t fr h]; simp [hi]
section
variable {P : Program} (w : World)
theorem step_append_OwnH {ops : Array Oper} {o : Oper} {a : Act} {K : Act → World → Prop} {Q : Exit → Act → World → Prop} {E : Prop} (hgd : o.guard = none) (s x : Operand) (t : TypeId)
  (ho : o.op = .call { callee := .builtin .append, args := #[s, x], argTypes := #[t, t] })
  (B : Nat) (e : TypeId) (i : TypeInfo) (z : Value) (bytes : Nat) (ht : P.underlying t = some (.slice e)) (hi : P.info? e = some i) (hz : i.zero = some z)
  (hsize : i.size = 1) (hby : i.bytes = bytes) (hzs : z.cells.size = 1)
  (v : Value) (xs : List Value) (hs : a.eval s = v) (hown : Own w B e v xs)
  (ad : Addr) (m c : Nat) (news : List Value) (hx : a.eval x = .slice (some ad) m c) (hl : news.length = m) (hnews : ∀ j u, news[j]? = some u → w.cell? (ad.add j) = some u) (h1 : ∀ u ∈ news, u.oneCell' = true)
  (h63 : xs.length + m ≤ maxLen) (hbytes : (xs.length + m) * bytes ≤ 140737488355328) (hbase : B ≤ w.heap.size)
  (h : ∀ v' w', Hid (Own w' B e v' (xs ++ news)) → Hid (w.grownBy w' v.ownBlock) → Hid (∀ g j, v.ownBlock = some g → j < xs.length → w'.cell? ⟨g, j, none⟩ = w.cell? ⟨g, j, none⟩) → K (a.put o.dst v') w') :
  if Region.wanted o (yielded ops a.tmps) = true then Oper.wp P o a w K Q else E := by
 have hw : Region.wanted o (yielded ops a.tmps) = true := by simp [Region.wanted, hgd]
 rw [if_pos hw]
 obtain ⟨v', w', hr, h2, h3, h4⟩ := run_append_Own (P := P) w B t o.type e i z bytes ht hi hz hsize hby hzs v xs hown ad m c news hl hnews h1 h63 hbytes hbase
 unfold Oper.wp execOp
 simp only [ho, resolve, invoke, builtin, Sem.run_bind, Sem.run_pure, Result.andThen_ok, List.map_toArray, List.map_cons, List.map_nil, hs, hx, hr]
 exact h v' w' h2 h3 h4
end
theorem refRight_int (x : BitVec 64) (k : Int) (h0 : 0 < k) (h1 : k < 64) (w : World) :
  Calls Tryz.prog 105 #[.int .u64 (U x), .int .i64 k] w fun e w' => e = .returned (.int .u64 (U (x.rotateRight k.toNat))) ∧ ∃ q, w' = w.drewN q :=
 refRight_any x k k.toNat (by omega) (by omega) (by omega) w
theorem infoU64 : (Tryz.prog.info? 59).map (fun i => (i.zero, i.size, i.bytes)) = some (some (.int .u64 0), 1, 8) := by kernel_rfl
theorem underSl64 : Tryz.prog.underlying 196 = some (.slice 59) := by kernel_rfl
theorem take_splice1 (L : List UInt8) (f : Nat) (c : UInt8) (h : f < L.length) : (splice L f [c]).take (f + 1) = L.take f ++ [c] := by
 unfold splice
 rw [← List.append_assoc, List.take_append_of_le_length (by simp; omega)]
 exact List.take_of_length_le (by simp; omega)
theorem st_mixS (H : HS) : H.mix.st = mixS H.st H.blk := by cases H; rfl
structure Inv (l : List UInt8) (k : Nat) (H : HS) : Prop where
 len : H.blk.length = 128
 n : H.n = k
 st : H.st = mixTo l ivH (k / 128)
 blk : H.blk.take (k % 128) = (l.drop (128 * (k / 128))).take (k % 128)
theorem inv_step (l : List UInt8) (k : Nat) (H : HS) (hk : k < l.length) (h : Inv l k H) : Inv l (k + 1) (H.put (l[k])) := by
 have hf : H.filled = k % 128 := by show H.n % 128 = _; rw [h.n]
 have hfl := H.filled_lt
 have hD : (l.drop (128 * (k / 128))).take (k % 128 + 1) = (l.drop (128 * (k / 128))).take (k % 128) ++ [l[k]] := by
  have hlt : k % 128 < (l.drop (128 * (k / 128))).length := by rw [List.length_drop]; omega
  rw [List.take_succ_eq_append_getElem hlt, List.getElem_drop]
  congr 2
  congr 1; omega
 have hB : (splice H.blk H.filled [l[k]]).take (k % 128 + 1) = (l.drop (128 * (k / 128))).take (k % 128 + 1) := by
  rw [hD, ← h.blk, ← hf, take_splice1 _ _ _ (by rw [h.len]; exact hfl)]
 have hL : (splice H.blk H.filled [l[k]]).length = 128 := (length_splice _ _ _ (by rw [h.len]; simp; omega)).trans h.len
 unfold HS.put HS.chunk HS.done
 by_cases h0 : (k + 1) % 128 = 0
 ·
  have hc : ({ H with blk := splice H.blk H.filled [l[k]], n := H.n + [l[k]].length } : HS).filled = 0 := by show (H.n + 1) % 128 = 0; rw [h.n]; exact h0
  rw [if_pos hc]
  have hq : (k + 1) / 128 = k / 128 + 1 := by omega
  have h127 : k % 128 + 1 = 128 := by omega
  have hblk : splice H.blk H.filled [l[k]] = chunk l (k / 128) := by
   have e := hB
   rw [h127] at e
   rw [List.take_of_length_le (by rw [hL]; exact Nat.le_refl _)] at e
   exact e
  refine ⟨?_, ?_, ?_, ?_⟩
  · rw [blk_mix]; exact hL
  · show H.n + 1 = k + 1; rw [h.n]
  ·
   rw [st_mixS, hq]
   show mixS H.st (splice H.blk H.filled [l[k]]) = mixS (mixTo l ivH (k / 128)) (chunk l (k / 128))
   rw [h.st, hblk]
  · rw [h0]; simp
 ·
  have hc : ¬ ({ H with blk := splice H.blk H.filled [l[k]], n := H.n + [l[k]].length } : HS).filled = 0 := by show ¬ (H.n + 1) % 128 = 0; rw [h.n]; exact h0
  rw [if_neg hc]
  have hq : (k + 1) / 128 = k / 128 := by omega
  have hr : (k + 1) % 128 = k % 128 + 1 := by omega
  refine ⟨hL, ?_, ?_, ?_⟩
  · show H.n + 1 = k + 1; rw [h.n]
  · rw [hq]; exact h.st
  · rw [hq, hr]; exact hB
theorem inv_take (l : List UInt8) : ∀ k, k ≤ l.length → Inv l k (H0.puts (l.take k))
 | 0, _ => ⟨H0_len, rfl, rfl, by simp⟩
 | k + 1, hk => by
  have h := inv_step l k _ (by omega) (inv_take l k (by omega))
  rw [List.take_succ_eq_append_getElem (by omega), HS.puts_append]
  exact h
theorem inv_all (l : List UInt8) : Inv l l.length (H0.puts l) := by
 have h := inv_take l l.length (Nat.le_refl _)
 rw [List.take_of_length_le (Nat.le_refl _)] at h
 exact h
theorem mixTo_congr (p l : List UInt8) (s : S8) (q : Nat) (h : ∀ i, i < q → chunk p i = chunk l i) : mixTo p s q = mixTo l s q := by
 induction q with
 | zero => rfl
 | succ q ih =>
  show mixS (mixTo p s q) (chunk p q) = mixS (mixTo l s q) (chunk l q)
  rw [ih (fun i hi => h i (by omega)), h q (by omega)]
theorem chunk_append (l r : List UInt8) (i : Nat) (h : 128 * i + 128 ≤ l.length) : chunk (l ++ r) i = chunk l i := by
 unfold chunk
 rw [List.drop_append_of_le_length (by omega), List.take_append_of_le_length (by rw [List.length_drop]; omega)]
theorem byteOf_eq (x : BitVec 64) (k m : Nat) (h : x.toNat / 2 ^ (56 - 8 * k) % 256 = m % 256) : byteOf x k = UInt8.ofNat m := by
 unfold byteOf
 apply UInt8.toNat.inj
 rw [UInt8.toNat_ofNat', UInt8.toNat_ofNat', BitVec.toNat_ushiftRight, Nat.shiftRight_eq_div_pow]
 exact h
theorem cnt_be8 (H : HS) (n : Nat) (hn : H.n = n) (hb : n < 2305843009213693952) : cntRow n 16 = be8 H.hi3 ++ be8 H.lo3 := by
 have hlo : H.lo.toNat = n := by unfold HS.lo; rw [hn, BitVec.toNat_ofNat]; exact Nat.mod_eq_of_lt (by omega)
 have hhi : H.hi = 0#64 := by
  unfold HS.hi; rw [hn]
  have : n / 18446744073709551616 = 0 := by omega
  rw [this]
 have h3 : H.hi3 = 0#64 := by
  unfold HS.hi3; rw [hhi]
  apply BitVec.eq_of_toNat_eq
  rw [BitVec.toNat_or, BitVec.toNat_ushiftRight, hlo, Nat.shiftRight_eq_div_pow]
  have : n / 2 ^ 61 = 0 := by omega
  rw [this]; simp
 have hl3 : H.lo3.toNat = 8 * n := by
  unfold HS.lo3; rw [BitVec.toNat_shiftLeft, hlo, Nat.shiftLeft_eq]; omega
 have e0 : ∀ k, byteOf 0#64 k = 0 := fun k => by
  rw [byteOf_eq 0#64 k 0 (by simp)]; rfl
 have c0 : ∀ i, i < 8 → cntByte n i = 0 := fun i hi => by
  unfold cntByte; rw [if_neg (by omega)]
  have : n / 32 / 256 ^ (14 - i) = 0 := by
   rw [Nat.div_eq_zero_iff]; right
   have : 256 ^ 7 ≤ 256 ^ (14 - i) := Nat.pow_le_pow_right (by omega) (by omega)
   omega
  rw [this]; rfl
 have c1 : ∀ k, k < 7 → cntByte n (8 + k) = byteOf H.lo3 k := fun k hk => by
  unfold cntByte; rw [if_neg (by omega)]
  refine (byteOf_eq _ _ _ ?_).symm
  rw [hl3]
  have e : 56 - 8 * k = 8 + 8 * (14 - (8 + k)) := by omega
  rw [e, Nat.pow_add, Nat.pow_mul, ← Nat.div_div_eq_div_mul]
  have e2 : 8 * n / 2 ^ 8 = n / 32 := by omega
  rw [e2, Nat.mod_mod]
 have c2 : cntByte n 15 = byteOf H.lo3 7 := by
  unfold cntByte; rw [if_pos rfl]
  refine (byteOf_eq _ _ _ ?_).symm
  rw [hl3]; omega
 have hr : cntRow n 16 = [cntByte n 0, cntByte n 1, cntByte n 2, cntByte n 3, cntByte n 4, cntByte n 5, cntByte n 6, cntByte n 7, cntByte n 8, cntByte n 9, cntByte n 10, cntByte n 11, cntByte n 12, cntByte n 13, cntByte n 14, cntByte n 15] := rfl
 rw [hr, h3]
 unfold be8
 rw [e0, e0, e0, e0, e0, e0, e0, e0, c0 0 (by omega), c0 1 (by omega), c0 2 (by omega), c0 3 (by omega), c0 4 (by omega), c0 5 (by omega), c0 6 (by omega), c0 7 (by omega),
  ← c1 0 (by omega), ← c1 1 (by omega), ← c1 2 (by omega), ← c1 3 (by omega), ← c1 4 (by omega), ← c1 5 (by omega), ← c1 6 (by omega), ← c2]
 rfl
theorem lay2 (M : List UInt8) (x y : BitVec 64) (h : M.length = 128) : layB (layB M 112 x 8) 120 y 8 = M.take 112 ++ (be8 x ++ be8 y) := by
 rw [layB_all (layB M 112 x 8) 120 y (by rw [layB_length]; omega), layB_all M 112 x (by omega)]
 have h1 : (M.take 112).length = 112 := by simp; omega
 have e1 : (M.take 112 ++ (be8 x ++ M.drop (112 + 8))).take 120 = M.take 112 ++ be8 x := by
  rw [← List.append_assoc, List.take_append_of_le_length (by simp [h1, be8_length])]
  exact List.take_of_length_le (by simp [h1, be8_length])
 have e2 : (M.take 112 ++ (be8 x ++ M.drop (112 + 8))).drop (120 + 8) = [] := List.drop_eq_nil_of_le (by simp [be8_length]; omega)
 rw [e1, e2]; simp
theorem mix_with (X : HS) (B : List UInt8) : (HS.mix { X with blk := B }).st = mixS X.st B := by cases X; rfl
theorem ended_st (H : HS) : H.ended.st = mixS H.roomed.st (layB (layB H.roomed.blk 112 H.hi3 8) 120 H.lo3 8) := mix_with _ _
theorem mixTo_mixS (p : List UInt8) (s : S8) (k : Nat) : mixTo p s (k + 1) = mixS (mixTo p s k) (chunk p k) := rfl
theorem marked_st (H : HS) : H.marked.st = H.st := by cases H; rfl
theorem same_hash (l : List UInt8) (NB : Nat) (hN : (padBH l).length = 128 * NB) (hb : l.length < 2305843009213693952) : (mixTo (padBH l) ivH NB).words.flatMap be8 = hashOf l := by
 have I := inv_all l
 obtain ⟨H, hH⟩ : ∃ H, H = H0.puts l := ⟨_, rfl⟩
 rw [← hH] at I
 unfold hashOf HS.sum
 rw [← hH]
 clear hH
 congr 2
 obtain ⟨q, hq⟩ : ∃ q, q = l.length / 128 := ⟨_, rfl⟩
 obtain ⟨f, hf⟩ : ∃ f, f = l.length % 128 := ⟨_, rfl⟩
 have hfil : H.filled = f := by show H.n % 128 = f; rw [I.n, hf]
 have hD : H.blk.take f = l.drop (128 * q) := by
  rw [hf, hq, I.blk]; exact List.take_of_length_le (by rw [List.length_drop]; omega)
 have hDl : (l.drop (128 * q)).length = f := by rw [List.length_drop]; omega
 have hst : H.st = mixTo (padBH l) ivH q := by
  rw [I.st, ← hq]
  refine (mixTo_congr _ _ _ _ fun i hi => ?_).symm
  unfold padBH padZ
  rw [List.append_assoc]
  exact chunk_append _ _ _ (by omega)
 have hcnt := cnt_be8 H l.length I.n hb
 have hPd : (padBH l).drop (128 * q) = l.drop (128 * q) ++ (128 :: List.replicate (zcnt l.length) 0 ++ cntRow l.length 16) := by
  unfold padBH padZ
  rw [List.append_assoc, List.drop_append_of_le_length (by omega)]
 have hPl : (padBH l).length = l.length + 1 + zcnt l.length + 16 := by unfold padBH; rw [List.length_append, padZ_length, cntRow_length]
 have hM : H.marked.blk = l.drop (128 * q) ++ (128 :: List.replicate (127 - f) 0) := by
  unfold HS.marked; rw [hfil, hD]
 rw [ended_st]
 by_cases h112 : f < 112
 ·
  have hz : zcnt l.length = 111 - f := by unfold zcnt; omega
  have hNB : NB = q + 1 := by omega
  have hroom : H.roomed = H.marked := by unfold HS.roomed; rw [if_neg (by rw [hfil]; omega)]
  rw [hroom, hNB, mixTo_mixS, marked_st, hst, lay2 _ _ _ (H.marked_length I.len), hM]
  refine congrArg (mixS _) ?_
  unfold chunk
  rw [hPd, hz, ← hcnt, List.take_of_length_le (by simp [cntRow_length]; omega), List.take_append, List.take_of_length_le (by omega), hDl]
  have e : (128 :: List.replicate (127 - f) (0 : UInt8)).take (112 - f) = 128 :: List.replicate (111 - f) 0 := by
   rw [show 112 - f = (111 - f) + 1 by omega, List.take_succ_cons, List.take_replicate]
   congr 2; omega
  rw [e]; simp
 ·
  have hz : zcnt l.length = 239 - f := by unfold zcnt; omega
  have hNB : NB = q + 1 + 1 := by omega
  have hroom : H.roomed = { H.marked.mix with blk := List.replicate 128 0 } := by unfold HS.roomed; rw [if_pos (by rw [hfil]; omega)]
  have hc1 : chunk (padBH l) q = H.marked.blk := by
   unfold chunk
   rw [hPd, hz, hM, List.take_append, List.take_of_length_le (by omega), hDl]
   congr 1
   rw [List.take_append_of_le_length (by simp; omega), show 128 - f = (127 - f) + 1 by omega, List.take_succ_cons, List.take_replicate]
   congr 2; omega
  have hc2 : chunk (padBH l) (q + 1) = List.replicate 112 0 ++ (be8 H.hi3 ++ be8 H.lo3) := by
   unfold chunk
   rw [show 128 * (q + 1) = 128 * q + 128 by omega, ← List.drop_drop, hPd, hz, ← hcnt]
   rw [List.drop_append, List.drop_eq_nil_of_le (by omega), hDl, List.nil_append, List.drop_append_of_le_length (by simp; omega)]
   rw [show 128 - f = (127 - f) + 1 by omega]
   rw [List.drop_succ_cons, List.drop_replicate, show 239 - f - (127 - f) = 112 by omega]
   exact List.take_of_length_le (by simp [cntRow_length])
  have hrs : H.roomed.st = mixS H.st H.marked.blk := by rw [hroom, ← marked_st H]; exact st_mixS _
  have hrb : H.roomed.blk = List.replicate 128 0 := by rw [hroom]
  rw [hrs, hrb, hNB, mixTo_mixS, mixTo_mixS, hc1, hc2, ← hst, lay2 _ _ _ (by simp)]
  refine congrArg (mixS _) ?_
  simp
theorem sch_cell {w : World} {g : Nat} {l : List (BitVec 64)} (h : ∀ i, i < (l.map uv).length → w.cell? ⟨g, i, none⟩ = (l.map uv)[i]?) (i : Nat) (hi : i < l.length) : w.cell? ⟨g, i, none⟩ = some (.int .u64 (U (l.getD i 0))) := by
 rw [h i (by simpa using hi)]; simp [hi]
structure Rd (w : World) (gv gc gw n : Nat) (T : S8) (kk ww : BitVec 64) : Prop where
 a : w.cell? ⟨gv, 0, none⟩ = some (.int .u64 (U T.a))
 b : w.cell? ⟨gv, 1, none⟩ = some (.int .u64 (U T.b))
 c : w.cell? ⟨gv, 2, none⟩ = some (.int .u64 (U T.c))
 d : w.cell? ⟨gv, 3, none⟩ = some (.int .u64 (U T.d))
 e : w.cell? ⟨gv, 4, none⟩ = some (.int .u64 (U T.e))
 f : w.cell? ⟨gv, 5, none⟩ = some (.int .u64 (U T.f))
 g : w.cell? ⟨gv, 6, none⟩ = some (.int .u64 (U T.g))
 h : w.cell? ⟨gv, 7, none⟩ = some (.int .u64 (U T.h))
 k : w.cell? ⟨gc, n, none⟩ = some (.int .u64 (U kk))
 w : w.cell? ⟨gw, n, none⟩ = some (.int .u64 (U ww))
theorem Rd.drewN {w : World} {gv gc gw n : Nat} {T : S8} {kk ww : BitVec 64} (h : Rd w gv gc gw n T kk ww) (q : Nat) : Rd (w.drewN q) gv gc gw n T kk ww := ⟨h.a, h.b, h.c, h.d, h.e, h.f, h.g, h.h, h.k, h.w⟩
theorem flat_get (ws : List (BitVec 64)) : ∀ j, j < 8 * ws.length → (ws.flatMap be8).getD j 0 = byteOf (ws.getD (j / 8) 0) (j % 8) := by
 induction ws with
 | nil => intro j hj; simp at hj
 | cons x l ih =>
  intro j hj
  simp only [List.flatMap_cons, List.getD_eq_getElem?_getD]
  by_cases h : j < 8
  ·
   rw [List.getElem?_append_left (by exact h)]
   have h0 : j / 8 = 0 := by omega
   have h1 : j % 8 = j := by omega
   rw [h0, h1]
   have hc : j = 0 ∨ j = 1 ∨ j = 2 ∨ j = 3 ∨ j = 4 ∨ j = 5 ∨ j = 6 ∨ j = 7 := by omega
   rcases hc with rfl | rfl | rfl | rfl | rfl | rfl | rfl | rfl <;> rfl
  ·
   rw [List.getElem?_append_right (by show 8 ≤ j; omega)]
   have e := ih (j - 8) (by simp at hj; omega)
   simp only [List.getD_eq_getElem?_getD] at e
   have e1 : j / 8 = (j - 8) / 8 + 1 := by omega
   have e2 : j % 8 = (j - 8) % 8 := by omega
   rw [e1, e2, List.getElem?_cons_succ]
   exact e
theorem own_geH {w : World} {B : Nat} {e : TypeId} {v : Value} {xs : List Value} (h : Own w B e v xs) {q : Nat} (hq : v.ownBlock = some q) : B ≤ q := by
 rcases h with ⟨rfl, _⟩ | ⟨g, cap, cur, fr, rfl, h1, _⟩
 · cases hq
 · simp [Value.ownBlock] at hq; omega
def loopsOf : Code → List Code
 | .loop c => c :: loopsOf c
 | .seq a b => loopsOf a ++ loopsOf b
 | .block _ c => loopsOf c
 | .scope c => loopsOf c
 | .cond _ a b => loopsOf a ++ loopsOf b
 | _ => []
noncomputable def refBody (n : Nat) : Code := (loopsOf (Tryz.f61.body.getD .skip)).getD n .skip
theorem size4W (n : Nat) : (Tryz.prog.info? 60).map (·.size) = some (num4A n).size := size4
theorem zero4W (w : World) : (zeroValue 60).run Tryz.prog w = .ok (.agg (num4A 0)) w := by kernel_rfl
theorem n4W (m n : Nat) : (num4A m).size = (num4A n).size := rfl
theorem ord_num : (#[nv 6346243789798364141, nv 1503914060200516822, nv 0, nv 1152921504606846976] : Array Value) = num4A Lord := by kernel_rfl
theorem size4N (n : Nat) : (Tryz.prog.info? 60).map (·.size) = some (num4A n).size := size4
theorem zero4N (w : World) : (zeroValue 60).run Tryz.prog w = .ok (.agg (num4A 0)) w := by kernel_rfl
theorem ltN_one (a b : Nat) : (V (ltN a b) == 1) = decide (a < b) := by
 unfold ltN V
 by_cases h : a < b
 · rw [if_pos h, decide_eq_true h]; rfl
 · rw [if_neg h, decide_eq_false h]; rfl
section
attribute [local irreducible] num4A
set_option maxRecDepth 100000 in
set_option maxHeartbeats 1000000 in
theorem isA (n : Nat) (hn : n < 115792089237316195423570985008687907853269984665640564039457584007913129639936) (w : World) (hO : OrdAt w) :
  Calls Tryz.prog 115 #[.agg (num4A n)] w fun e w' => e = .returned (.bool (decide (n < Lord))) ∧ Below w.heap.size w w' := by
 have hz := zero4N
 have HN := hide hn
 obtain ⟨TT, frr, ho⟩ := hO.row
 rw [ord_num] at ho
 have HO := hide ho
 have lO := lt_row ho
 have hlt := ltN_one n Lord
 clear hn hO ho
 go_enter Tryz.func115, Tryz.ntmps115
 go_upto_region 1 with fail
 generalize hW0 : World.alloc _ _ = W0
 have R1 : Hid (W0.heap[w.heap.size]? = some (.cells (num4A n) 60 (0, 0))) := by rw [← hW0]; exact heap_alloc_new _ _
 have RO : Hid (W0.heap[6]? = some (.cells (num4A Lord) TT frr)) := by rw [← hW0]; exact (heap_alloc_old _ _ lO).trans HO.out
 have BL : Hid (Below w.heap.size w W0) := by rw [← hW0]; show Below _ _ _; go_grown
 clear hW0
 go_wp2_with (first
  | (refine wpList_load_row (by rfl) 60 (.tmp 1) (by rfl) w.heap.size (by rfl) 60 (num4A n) (0, 0) _ R1.out under4 rfl (size4N _) ?_)
  | (refine wpList_load_row (by rfl) 60 (.global 6) (by rfl) 6 (by rfl) TT (num4A Lord) frr _ RO.out under4 rfl (size4N _) ?_))
 refine (subA n Lord HN.out (by decide) _).mono ?_
 rintro e W1 ⟨d, rfl, hB⟩
 have BL := kTr BL hB
 clear hB
 go_upto_region 2 with (first
  | (refine wpList_store_row (by rfl) 60 (.tmp 3) (.tmp 9) (by rfl) W1.heap.size (num4A d) (by rfl) (by rfl) 60 _ (heap_alloc_new _ _) (size4N _) (n4_old _ _) (num4A_all _) ?_))
 try rw [put_none']
 generalize hW2 : World.setRow _ _ _ = W2
 have BL2 : Hid (Below w.heap.size w W2) := by rw [← hW2]; exact below_setRow (BL.out.alloc BL.out.size _) BL.out.size _
 clear hW2
 go_wp2_with fail
 go_returns
 exact ⟨rfl, BL2.out⟩
end
end Go.Proofs.YtccgfabojbjmjaaGreatDoor
