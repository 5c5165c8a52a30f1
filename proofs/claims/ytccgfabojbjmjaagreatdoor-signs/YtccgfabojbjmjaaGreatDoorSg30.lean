import Derived.LaidSub
import Derived.Test.YtccgfabojbjmjaaGreatDoorSg26
import Derived.Test.YtccgfabojbjmjaaGreatDoorSg29
import Derived.Test.YtccgfabojbjmjaaGreatDoorSg23
namespace Go.Proofs.YtccgfabojbjmjaaGreatDoor
open Go.ChangeShapes Go.WideShapes Go.ChangeAt Go.RowKit
theorem cellsEl : Tryz.prog.cellsOf 80 = 4 := by kernel_rfl
theorem el_row {W : World} {nm : String} {g : Nat} {zs : List Int} {n : Nat} (hg : Tryz.prog.globalNamed nm = some g) (hn : (zs.map fun z => Value.int .u64 z).toArray = qac n) (t : Lib.TabIs Tryz.prog W nm .u64 zs) : ∃ T fr, W.heap[g]? = some (.cells (qac n) T fr) := by
 unfold Lib.TabIs World.var? at t
 rw [hg] at t
 simp only [Option.bind_some] at t
 split at t
 ·
  rename_i cs ty fr h
  refine ⟨ty, fr, h.trans ?_⟩
  rw [Option.some.inj t, ← hn]
 · cases t
theorem gvM : Tryz.prog.globalNamed "latch/field.modulus" = some 10 := by kernel_rfl
theorem gtM : (Tryz.prog.globals[10]?).map (·.type) = some 80 := by kernel_rfl
def intsM : List Int := [18446744073709551597, 18446744073709551615, 18446744073709551615, 9223372036854775807]
theorem laidM : (Rows.laid_latch_field_modulus : DataW Unit) = Lib.tabData .u64 intsM := by kernel_rfl
theorem numM : (intsM.map fun z => Value.int .u64 z).toArray = qac P := by kernel_rfl
theorem gvR : Tryz.prog.globalNamed "latch/field.rootOfMinusOne" = some 12 := by kernel_rfl
theorem gtR : (Tryz.prog.globals[12]?).map (·.type) = some 80 := by kernel_rfl
def intsR : List Int := [14190309331451158704, 3405592160176694392, 3120150775007532967, 3135389899092516619]
theorem laidR : (Rows.laid_latch_field_rootOfMinusOne : DataW Unit) = Lib.tabData .u64 intsR := by kernel_rfl
theorem numR : (intsR.map fun z => Value.int .u64 z).toArray = qac rmN := by kernel_rfl
theorem gvO : Tryz.prog.globalNamed "latch/curve.one" = some 8 := by kernel_rfl
theorem gtO : (Tryz.prog.globals[8]?).map (·.type) = some 80 := by kernel_rfl
def intsO : List Int := [1, 0, 0, 0]
theorem laidO : (Rows.laid_latch_curve_one : DataW Unit) = Lib.tabData .u64 intsO := by kernel_rfl
theorem numO : (intsO.map fun z => Value.int .u64 z).toArray = qac 1 := by kernel_rfl
theorem gvD : Tryz.prog.globalNamed "latch/curve.d" = some 11 := by kernel_rfl
theorem gtD : (Tryz.prog.globals[11]?).map (·.type) = some 80 := by kernel_rfl
def intsD : List Int := [8496970652267935907, 31536524315187371, 10144147576115030168, 5909686906226998899]
theorem laidD : (Rows.laid_latch_curve_d : DataW Unit) = Lib.tabData .u64 intsD := by kernel_rfl
theorem numD : (intsD.map fun z => Value.int .u64 z).toArray = qac dN := by kernel_rfl
theorem gvT : Tryz.prog.globalNamed "latch/curve.twoD" = some 5 := by kernel_rfl
theorem gtT : (Tryz.prog.globals[5]?).map (·.type) = some 80 := by kernel_rfl
def intsT : List Int := [16993941304535871833, 63073048630374742, 1841551078520508720, 2596001775599221991]
theorem laidT : (Rows.laid_latch_curve_twoD : DataW Unit) = Lib.tabData .u64 intsT := by kernel_rfl
theorem numT : (intsT.map fun z => Value.int .u64 z).toArray = qac (mP 2 dN) := by kernel_rfl
def putR (i : Nat) (cs : Array Value) (h : Array Obj) : Array Obj := h.modify i fun
 | .cells _ t frozen => .cells cs t frozen
 | o => o
noncomputable def laidWorldA (os : Os) : World :=
 { World.holding Tryz.prog os ⟨#[], #[], []⟩ with heap := putR 5 #[.int .u64 16993941304535871833, .int .u64 63073048630374742, .int .u64 1841551078520508720, .int .u64 2596001775599221991] (putR 11 #[.int .u64 8496970652267935907, .int .u64 31536524315187371, .int .u64 10144147576115030168, .int .u64 5909686906226998899] (putR 8 #[.int .u64 1, .int .u64 0, .int .u64 0, .int .u64 0] (putR 12 #[.int .u64 14190309331451158704, .int .u64 3405592160176694392, .int .u64 3120150775007532967, .int .u64 3135389899092516619] (putR 10 #[.int .u64 18446744073709551597, .int .u64 18446744073709551615, .int .u64 18446744073709551615, .int .u64 9223372036854775807] ((World.holding Tryz.prog os ⟨#[], #[], []⟩).heap))))) }
end Go.Proofs.YtccgfabojbjmjaaGreatDoor
namespace Go.Proofs.YtccgfabojbjmjaaGreatDoor
theorem onesN_pow (a : Nat) : ∀ n, Cg a (qdJ a n) (2 ^ n - 1)
 | 0 => by unfold Cg qdJ; rw [Nat.pow_zero]
 | n + 1 => by
  have c := (((onesN_pow a n).sqN 1).mP (Cg.one a))
  refine Cg.cast (e := (2 ^ n - 1) * 2 ^ 1 + 1) c ?_
  have : 0 < 2 ^ n := Nat.pow_pos (by decide)
  rw [Nat.pow_succ 2 n, Nat.pow_one]
  omega
theorem Cg.eq {a x e : Nat} (h : Cg a x e) (hx : x < P) : x = pwP a e := by
 unfold Cg at h
 rw [Nat.mod_eq_of_lt hx] at h
 exact h
theorem invD_invN (a : Nat) : qcq a = qd8 a := by
 rw [invN_pw]
 have c1 := Cg.one a
 have c := ((((((((onesN_pow a 250).sqN 2).mP c1).sqN 2).mP c1).sqN 1).mP c1))
 refine (Cg.cast c ?_).eq (qek a)
 decide +kernel
theorem m1D_rmN : m1D = rmN := by
 rw [← rmN_pw]
 have c1 := Cg.one 2
 have c := ((((onesN_pow 2 250).sqN 2).mP c1).sqN 1).mP c1
 refine (Cg.cast c ?_).eq (qaB _ _)
 decide +kernel
theorem k66_pw : pwP 121666 Pm2 = 37095705934669439343138083508754565189542113879843219016388785533085940283556 := pw_of_pm 121666 Pm2 _ 255 (by decide +kernel) (by decide +kernel)
theorem crvD_dN : crvD = dN := by
 unfold crvD
 rw [invD_invN, invN_pw, k66_pw]
 decide +kernel
theorem rxD_0 (a : Nat) : rxD a 0 = pwP a (E8 + 1) := by
 have c : Cg a (sqN 1 (qdJ a 251)) ((2 ^ 251 - 1) * 2 ^ 1) := (onesN_pow a 251).sqN 1
 have e : rxD a 0 = sqN 1 (qdJ a 251) := mP_one (qcb 1 _ (qdY _ _))
 rw [e]
 refine (Cg.cast c ?_).eq (qcb 1 _ (qdY _ _))
 decide +kernel
theorem vN_lt (y : Nat) : vN y < P := qcu _ _
theorem uN_lt (y : Nat) : uN y < P := qbO _ _
theorem pofA_eq (y : Nat) : pofA dN y = mP (uN y) (qd8 (vN y)) := by
 unfold pofA uN vN
 rw [invD_invN, mP_comm dN]
theorem rx0_rt (y : Nat) : rxD (pofA dN y) 0 = rtN (uN y) (vN y) := by
 rw [rxD_0, pofA_eq, root_same (uN_lt y) (vN_lt y) (vN_ne y)]
theorem rx1_rt (y : Nat) : rxD (pofA dN y) 1 = mP (rtN (uN y) (vN y)) rmN := by
 show mP (rxD (pofA dN y) 0) m1D = _
 rw [rx0_rt, m1D_rmN]
theorem t1 (y : Nat) : mP (rxD (pofA dN y) 0) (rxD (pofA dN y) 0) = pofA dN y ↔ sqrN (uN y) (vN y) = uN y := by
 rw [test_one (uN_lt y) (vN_ne y), rx0_rt, pofA_eq]
theorem t2 (y : Nat) : mP (rxD (pofA dN y) 1) (rxD (pofA dN y) 1) = pofA dN y ↔ sqrN (uN y) (vN y) = sP 0 (uN y) := by
 rw [test_two (uN_lt y) (vN_ne y), rx1_rt, test_doc (pofA_lt _ _), pofA_eq]
theorem pofR_root (y : Nat) : pofR dN y = qce (uN y) (vN y) := by
 unfold pofR qbR qce
 simp only [t1, t2]
 rw [rx0_rt, rx1_rt]
theorem rootDB_root (y : Nat) : qbK (pofA dN y) = qcV (uN y) (vN y) := by
 unfold qbK qcV
 simp only [t1, t2]
theorem xs_same (y : Nat) (odd : Bool) : pofX dN y odd = xsN y odd := by
 unfold pofX xsN
 rw [pofR_root]
theorem ok_same (y : Nat) (odd : Bool) : (qbK (pofA dN y) && !(decide (pofR dN y = 0) && odd)) = xofB y odd := by
 unfold xofB
 rw [rootDB_root, pofR_root]
 cases hb : qcV (uN y) (vN y)
 · simp
 ·
  simp only [if_true, Bool.true_and]
  unfold xsN
  have hl := rootV_lt (uN y) (vN y)
  generalize qce (uN y) (vN y) = r at *
  by_cases h0 : r = 0
  ·
   subst h0
   cases odd
   · decide +kernel
   · decide +kernel
  ·
   have hop := opp_odd hl h0
   rw [decide_eq_false h0]
   simp only [Bool.false_and, Bool.not_false]
   by_cases hp : r % 2 = 1
   ·
    cases odd
    ·
     simp only [hp, decide_true]
     have : ¬ sP 0 r % 2 = 1 := by rw [hop]; omega
     simp [this]
    · simp [hp]
   ·
    cases odd
    · simp [hp]
    ·
     have : sP 0 r % 2 = 1 := by rw [hop]; omega
     simp [hp, this]
theorem q0_ok : q0.Ok := ⟨qbQ, qbQ, qbQ⟩
theorem pofX_lt (d y : Nat) (odd : Bool) : pofX d y odd < P := by
 unfold pofX; split
 · exact qbO _ _
 · exact rootDV_lt _
theorem pofQ_ok (d : Nat) (s : ByteArray) : (pofQ d s).Ok := by
 unfold pofQ; split
 · exact ⟨pofX_lt _ _ _, Nat.mod_lt _ qbQ, oneP⟩
 · exact q0_ok
theorem plusD_ok (d : Nat) (p q : Q3) : (plusD d p q).Ok := ⟨qaB _ _, qaB _ _, qaB _ _⟩
theorem crvD_lt : crvD < P := qaB _ _
end Go.Proofs.YtccgfabojbjmjaaGreatDoor
namespace Go.Proofs.YtccgfabojbjmjaaGreatDoor
open Go.RowKit
theorem ofb_iff (m : Nat) : ofbB m = decide (m = m % P) := by
 unfold ofbB
 congr 1
 apply propext
 constructor
 · intro h; exact (Nat.mod_eq_of_lt h).symm
 · intro h; rw [h]; exact Nat.mod_lt _ qbQ
theorem ks_32 {s : ByteArray} (h : s.size = 32) : ksN s = qaC (qax s) := by unfold ksN ksB; rw [if_pos h]
theorem dcY_yOf {s : ByteArray} (h : s.size = 32) : dcY (ksN s) = yOf s := by rw [ks_32 h]; rfl
theorem dcO_odd {s : ByteArray} (h : s.size = 32) : dcO (ksN s) = oddOf s := by
 rw [← dcO_top _ (ksN_lt s)]
 unfold oddOf
 rw [qaX, ks_32 h, qcK]
theorem poB_32 {s : ByteArray} (h : s.size = 32) : poB s = qd7 dN s := by
 unfold poB qd7 dcB ksO
 rw [dcY_yOf h, dcO_odd h, decide_eq_true h, Bool.true_and, Bool.true_and, ofb_iff]
 by_cases hy : yOf s = yOf s % P
 ·
  rw [decide_eq_true hy, Bool.true_and, Bool.true_and]
  have e : ofbV (yOf s) = yOf s % P := by
   unfold ofbV
   rw [if_pos (by rw [hy]; exact Nat.mod_lt _ qbQ)]; exact hy
  rw [e, ok_same]
 · rw [decide_eq_false hy, Bool.false_and, Bool.false_and]
theorem poB_same (s : ByteArray) : poB s = qd7 dN s := by
 by_cases h : s.size = 32
 · exact poB_32 h
 ·
  unfold poB qd7 ksO
  rw [decide_eq_false h, Bool.false_and, Bool.false_and]
theorem pofB_parts {s : ByteArray} (h : qd7 dN s = true) : s.size = 32 ∧ yOf s = yOf s % P ∧ qbK (pofA dN (yOf s % P)) = true := by
 unfold qd7 at h
 rw [Bool.and_eq_true, Bool.and_eq_true, Bool.and_eq_true] at h
 exact ⟨of_decide_eq_true h.1, of_decide_eq_true h.2.1, h.2.2.1⟩
theorem point_same {s : ByteArray} (h : qd7 dN s = true) : ∃ x y, x < P ∧ y < P ∧ poP s = ptOf x y ∧ pofQ dN s = q3Of x y := by
 obtain ⟨h32, hy, hr⟩ := pofB_parts h
 have hb : poB s = true := by rw [poB_same]; exact h
 have hd : dcB (ksN s) = true := by
  unfold poB at hb
  rw [Bool.and_eq_true] at hb
  exact hb.2
 refine ⟨xsN (yOf s % P) (oddOf s), yOf s % P, ?_, Nat.mod_lt _ qbQ, ?_, ?_⟩
 · rw [← xs_same]; exact pofX_lt _ _ _
 ·
  unfold poP
  rw [hb, if_pos rfl]
  unfold dcP
  rw [hd, if_pos rfl, dcY_yOf h32, dcO_odd h32]
  have e : ofbV (yOf s) = yOf s % P := by
   unfold ofbV
   rw [if_pos (by rw [hy]; exact Nat.mod_lt _ qbQ)]; exact hy
  rw [e]
  unfold xofV
  rw [← rootDB_root, hr, if_pos rfl]
 ·
  unfold pofQ
  rw [h, if_pos rfl, xs_same]
  rfl
theorem qbu (n : Nat) : (Tryz.prog.info? 60).map (·.size) = some (qac n).size := qdp
theorem zero4W (w : World) : (zeroValue 60).run Tryz.prog w = .ok (.agg (qac 0)) w := by kernel_rfl
theorem n4W (m n : Nat) : (qac m).size = (qac n).size := rfl
theorem num4A_atW (n t : Nat) (ht : t < 4) : (qac n)[t]? = some (nv (wd n t)) := by
 have h4 : t = 0 ∨ t = 1 ∨ t = 2 ∨ t = 3 := by omega
 rcases h4 with rfl | rfl | rfl | rfl <;> rfl
theorem index4W (n t : Nat) (ht : t < 4) (w : World) : (Instr.index 60 (.agg (qac n)) (.int .i64 t)).run Tryz.prog w = .ok (nv (wd n t)) w := by
 cases hq : Tryz.prog.info? 59 with
 | none => have := qcW; rw [hq] at this; cases this
 | some inf =>
  have hs : inf.size = 1 := by have := qcW; rw [hq] at this; simpa using this
  have h0 := num4A_atW n t ht
  simp [Instr.index, asIntOf, run_underlying qbh, sizeOf, typeInfo, hq, hs, qd5 _ t _ h0]
  intro h; omega
def setW (n j v : Nat) : Nat := n - wd n j * 18446744073709551616 ^ j + v * 18446744073709551616 ^ j
theorem wd_le (n j : Nat) : wd n j * 18446744073709551616 ^ j ≤ n := by
 unfold wd
 calc n / 18446744073709551616 ^ j % 18446744073709551616 * 18446744073709551616 ^ j ≤ n / 18446744073709551616 ^ j * 18446744073709551616 ^ j := Nat.mul_le_mul_right _ (Nat.mod_le _ _)
  _ ≤ n := Nat.div_mul_le_self _ _
theorem setW_row (n j v : Nat) (hn : n < 115792089237316195423570985008687907853269984665640564039457584007913129639936) (hj : j < 4) (hv : v < 18446744073709551616) :
  ([nv (wd n 0), nv (wd n 1), nv (wd n 2), nv (wd n 3)].set j (nv v)).toArray = qac (setW n j v) ∧ setW n j v < 115792089237316195423570985008687907853269984665640564039457584007913129639936 := by
 have h4 : j = 0 ∨ j = 1 ∨ j = 2 ∨ j = 3 := by omega
 rcases h4 with rfl | rfl | rfl | rfl
 all_goals
  unfold qac setW wd
  simp only [Nat.reducePow, Nat.pow_zero, Nat.pow_one, Nat.div_one, Nat.mul_one, List.set_cons_zero, List.set_cons_succ]
  refine ⟨?_, by omega⟩
 · rw [show (n - n % 18446744073709551616 + v) % 18446744073709551616 = v by omega, show (n - n % 18446744073709551616 + v) / 18446744073709551616 = n / 18446744073709551616 by omega, show (n - n % 18446744073709551616 + v) / 340282366920938463463374607431768211456 = n / 340282366920938463463374607431768211456 by omega, show (n - n % 18446744073709551616 + v) / 6277101735386680763835789423207666416102355444464034512896 = n / 6277101735386680763835789423207666416102355444464034512896 by omega]
 · rw [show (n - n / 18446744073709551616 % 18446744073709551616 * 18446744073709551616 + v * 18446744073709551616) % 18446744073709551616 = n % 18446744073709551616 by omega, show (n - n / 18446744073709551616 % 18446744073709551616 * 18446744073709551616 + v * 18446744073709551616) / 18446744073709551616 % 18446744073709551616 = v by omega, show (n - n / 18446744073709551616 % 18446744073709551616 * 18446744073709551616 + v * 18446744073709551616) / 340282366920938463463374607431768211456 = n / 340282366920938463463374607431768211456 by omega, show (n - n / 18446744073709551616 % 18446744073709551616 * 18446744073709551616 + v * 18446744073709551616) / 6277101735386680763835789423207666416102355444464034512896 = n / 6277101735386680763835789423207666416102355444464034512896 by omega]
 · rw [show (n - n / 340282366920938463463374607431768211456 % 18446744073709551616 * 340282366920938463463374607431768211456 + v * 340282366920938463463374607431768211456) % 18446744073709551616 = n % 18446744073709551616 by omega, show (n - n / 340282366920938463463374607431768211456 % 18446744073709551616 * 340282366920938463463374607431768211456 + v * 340282366920938463463374607431768211456) / 18446744073709551616 % 18446744073709551616 = n / 18446744073709551616 % 18446744073709551616 by omega, show (n - n / 340282366920938463463374607431768211456 % 18446744073709551616 * 340282366920938463463374607431768211456 + v * 340282366920938463463374607431768211456) / 340282366920938463463374607431768211456 % 18446744073709551616 = v by omega, show (n - n / 340282366920938463463374607431768211456 % 18446744073709551616 * 340282366920938463463374607431768211456 + v * 340282366920938463463374607431768211456) / 6277101735386680763835789423207666416102355444464034512896 = n / 6277101735386680763835789423207666416102355444464034512896 by omega]
 · rw [show (n - n / 6277101735386680763835789423207666416102355444464034512896 % 18446744073709551616 * 6277101735386680763835789423207666416102355444464034512896 + v * 6277101735386680763835789423207666416102355444464034512896) % 18446744073709551616 = n % 18446744073709551616 by omega, show (n - n / 6277101735386680763835789423207666416102355444464034512896 % 18446744073709551616 * 6277101735386680763835789423207666416102355444464034512896 + v * 6277101735386680763835789423207666416102355444464034512896) / 18446744073709551616 % 18446744073709551616 = n / 18446744073709551616 % 18446744073709551616 by omega, show (n - n / 6277101735386680763835789423207666416102355444464034512896 % 18446744073709551616 * 6277101735386680763835789423207666416102355444464034512896 + v * 6277101735386680763835789423207666416102355444464034512896) / 340282366920938463463374607431768211456 % 18446744073709551616 = n / 340282366920938463463374607431768211456 % 18446744073709551616 by omega, show (n - n / 6277101735386680763835789423207666416102355444464034512896 % 18446744073709551616 * 6277101735386680763835789423207666416102355444464034512896 + v * 6277101735386680763835789423207666416102355444464034512896) / 6277101735386680763835789423207666416102355444464034512896 % 18446744073709551616 = v by omega]
theorem step_W (X c H w b j lo hi : Nat) (h : X + c * 18446744073709551616 ^ j = H + w * (b % 18446744073709551616 ^ j)) (hm : lo + 18446744073709551616 * hi = w * wd b j + wd X j + c) :
  setW X j lo + hi * 18446744073709551616 ^ (j + 1) = H + w * (b % 18446744073709551616 ^ (j + 1)) := by
 have hle := wd_le X j
 have e1 : b % 18446744073709551616 ^ (j + 1) = b % 18446744073709551616 ^ j + 18446744073709551616 ^ j * wd b j := by
  unfold wd; rw [Nat.pow_succ, Nat.mod_mul]
 unfold setW
 rw [e1, Nat.pow_succ]
 generalize 18446744073709551616 ^ j = p at *
 generalize b % p = r at *
 generalize wd b j = y at *
 generalize wd X j = x at *
 have e2 : w * (r + p * y) = w * r + p * (w * y) := by rw [Nat.mul_add, ← Nat.mul_assoc w p y, Nat.mul_comm w p, Nat.mul_assoc]
 rw [e2]
 have e3 : lo * p + hi * (p * 18446744073709551616) = p * (w * y) + x * p + c * p := by
  have : p * (lo + 18446744073709551616 * hi) = p * (w * y + x + c) := by rw [hm]
  rw [Nat.mul_add, Nat.mul_add, Nat.mul_add] at this
  rw [Nat.mul_comm lo p, Nat.mul_comm x p, Nat.mul_comm c p, ← this, ← Nat.mul_assoc p, Nat.mul_comm hi]
 omega
theorem at5W_4 (w : World) (A B C D E : Obj) : (((((w.alloc A).alloc B).alloc C).alloc D).alloc E).heap[w.heap.size + 4]? = some E := by
 have e := heap_alloc_new ((((w.alloc A).alloc B).alloc C).alloc D) E
 simpa using e
theorem at5W_3 (w : World) (A B C D E : Obj) : (((((w.alloc A).alloc B).alloc C).alloc D).alloc E).heap[w.heap.size + 3]? = some D := by
 rw [heap_alloc_old _ _ (by simp only [World.size_alloc]; omega)]
 have e := heap_alloc_new (((w.alloc A).alloc B).alloc C) D
 simpa using e
theorem at5W_2 (w : World) (A B C D E : Obj) : (((((w.alloc A).alloc B).alloc C).alloc D).alloc E).heap[w.heap.size + 2]? = some C := by
 rw [heap_alloc_old _ _ (by simp only [World.size_alloc]; omega), heap_alloc_old _ _ (by simp only [World.size_alloc]; omega)]; exact qbm _ _ _ _
theorem at5W_1 (w : World) (A B C D E : Obj) : (((((w.alloc A).alloc B).alloc C).alloc D).alloc E).heap[w.heap.size + 1]? = some B := by
 rw [heap_alloc_old _ _ (by simp only [World.size_alloc]; omega), heap_alloc_old _ _ (by simp only [World.size_alloc]; omega)]; exact qbp _ _ _ _
theorem at5W_0 (w : World) (A B C D E : Obj) : (((((w.alloc A).alloc B).alloc C).alloc D).alloc E).heap[w.heap.size]? = some A := by
 rw [heap_alloc_old _ _ (by simp only [World.size_alloc]; omega), heap_alloc_old _ _ (by simp only [World.size_alloc]; omega)]; exact qbE _ _ _ _
theorem shift_row (X cc : Nat) (hX : X < 115792089237316195423570985008687907853269984665640564039457584007913129639936) (hc : cc < 18446744073709551616) : (#[nv (wd X 1), nv (wd X 2), nv (wd X 3), nv cc] : Array Value) = qac (X / 18446744073709551616 + cc * 6277101735386680763835789423207666416102355444464034512896) ∧ X / 18446744073709551616 + cc * 6277101735386680763835789423207666416102355444464034512896 < 115792089237316195423570985008687907853269984665640564039457584007913129639936 := by
 refine ⟨?_, by omega⟩
 unfold qac wd
 simp only [Nat.reducePow, Nat.pow_zero, Nat.pow_one, Nat.div_one]
 rw [show (X / 18446744073709551616 + cc * 6277101735386680763835789423207666416102355444464034512896) % 18446744073709551616 = X / 18446744073709551616 % 18446744073709551616 by omega, show (X / 18446744073709551616 + cc * 6277101735386680763835789423207666416102355444464034512896) / 18446744073709551616 % 18446744073709551616 = X / 340282366920938463463374607431768211456 % 18446744073709551616 by omega, show (X / 18446744073709551616 + cc * 6277101735386680763835789423207666416102355444464034512896) / 340282366920938463463374607431768211456 % 18446744073709551616 = X / 6277101735386680763835789423207666416102355444464034512896 % 18446744073709551616 by omega, show (X / 18446744073709551616 + cc * 6277101735386680763835789423207666416102355444464034512896) / 6277101735386680763835789423207666416102355444464034512896 % 18446744073709551616 = cc by omega]
theorem round_W (a b c L H X cc k : Nat) (hL : L < 18446744073709551616 ^ k) (h : L + H * 18446744073709551616 ^ k = a % 18446744073709551616 ^ k * b + c) (hX : X + cc * 18446744073709551616 ^ 4 = H + wd a k * b) :
  setW L k (wd X 0) < 18446744073709551616 ^ (k + 1) ∧ setW L k (wd X 0) + (X / 18446744073709551616 + cc * 6277101735386680763835789423207666416102355444464034512896) * 18446744073709551616 ^ (k + 1) = a % 18446744073709551616 ^ (k + 1) * b + c := by
 have e0 : wd L k = 0 := by unfold wd; rw [Nat.div_eq_of_lt hL]
 have e1 : a % 18446744073709551616 ^ (k + 1) = a % 18446744073709551616 ^ k + 18446744073709551616 ^ k * wd a k := by
  unfold wd; rw [Nat.pow_succ, Nat.mod_mul]
 have ex : wd X 0 = X % 18446744073709551616 := by unfold wd; rw [Nat.pow_zero, Nat.div_one]
 have e4 : (18446744073709551616 : Nat) ^ 4 = 18446744073709551616 * 6277101735386680763835789423207666416102355444464034512896 := by decide
 unfold setW
 rw [e0, e1, Nat.zero_mul, Nat.sub_zero, ex, Nat.pow_succ]
 rw [e4] at hX
 generalize 18446744073709551616 ^ k = p at *
 generalize a % p = r at *
 generalize wd a k = y at *
 have hd := Nat.div_add_mod X 18446744073709551616
 have hm : X % 18446744073709551616 < 18446744073709551616 := Nat.mod_lt _ (by decide)
 generalize X / 18446744073709551616 = d at *
 generalize X % 18446744073709551616 = z at *
 refine ⟨?_, ?_⟩
 ·
  have : z * p ≤ 18446744073709551615 * p := Nat.mul_le_mul_right _ (by omega)
  omega
 ·
  have e5 : (r + p * y) * b = r * b + p * (y * b) := by rw [Nat.add_mul, Nat.mul_assoc]
  rw [e5]
  have e6 : p * (z + 18446744073709551616 * (d + cc * 6277101735386680763835789423207666416102355444464034512896)) = p * (H + y * b) := by
   rw [← hX, ← hd]
   congr 1
   rw [Nat.mul_add]
   rw [show 18446744073709551616 * (cc * 6277101735386680763835789423207666416102355444464034512896) = cc * (18446744073709551616 * 6277101735386680763835789423207666416102355444464034512896) by rw [← Nat.mul_assoc, Nat.mul_comm 18446744073709551616 cc, Nat.mul_assoc]]
   omega
  rw [Nat.mul_add, Nat.mul_add p H] at e6
  have e7 : (d + cc * 6277101735386680763835789423207666416102355444464034512896) * (p * 18446744073709551616) = p * (18446744073709551616 * (d + cc * 6277101735386680763835789423207666416102355444464034512896)) := by
   rw [Nat.mul_comm, Nat.mul_assoc]
  rw [e7, Nat.mul_comm z p]
  have e8 : H * p = p * H := Nat.mul_comm _ _
  rw [e8] at h
  omega
theorem rowF_zeroT (l : List Int) (f : Nat → Int) : ((List.range l.length).map fun i => if i < 0 then f i else l.getD i 0) = l := by
 apply List.ext_getElem?
 intro i
 by_cases h : i < l.length
 · simp [h, List.getD]
 · simp [h]
theorem rowF_stepT (l : List Int) (f : Nat → Int) (k : Nat) (h : k < l.length) :
  ((List.range l.length).map fun i => if i < k then f i else l.getD i 0).set k (f k) = (List.range l.length).map fun i => if i < k + 1 then f i else l.getD i 0 := by
 apply List.ext_getElem?
 intro i
 rw [List.getElem?_set]
 by_cases hk : k = i
 · subst hk; simp [h]
 ·
  rw [if_neg hk]
  by_cases h : i < l.length
  ·
   have e1 : (i < k + 1) = (i < k) := by apply propext; omega
   simp [h, e1]
  · simp [h]
theorem ivS_sizeT {d : List Int} (h : d.length = 17) : (Tryz.prog.info? 91).map (·.size) = some (d.map iv).toArray.size := by rw [sizeS]; simp [h]
theorem ivS_oldT {d : List Int} (h : d.length = 17) : zS.size = (d.map iv).toArray.size := by simp [h, zS]
theorem ivS_allT (d : List Int) : (d.map iv).toArray.all (·.oneCell') = true := all_oneCell_toArray (ivs_cell _)
def wI (l : List UInt8) (i : Nat) : Int := C8 (l.getD (2 * i) 0) + 256 * C8 (l.getD (2 * i + 1) 0)
def zr : List Int := List.replicate 17 0
def sRow (l : List UInt8) (k : Nat) : List Int := (List.range zr.length).map fun i => if i < k then wI l i else zr.getD i 0
theorem qca (l : List UInt8) (k : Nat) : (sRow l k).length = 17 := by unfold sRow; rw [List.length_map, List.length_range]; rfl
theorem sRow_zero (l : List UInt8) : sRow l 0 = zr := rowF_zeroT zr (wI l)
theorem sRow_step (l : List UInt8) (k : Nat) (h : k < 17) : (sRow l k).set k (wI l k) = sRow l (k + 1) := rowF_stepT zr (wI l) k (by simpa [zr] using h)
theorem sRow_get (l : List UInt8) (k i : Nat) (hi : i < k) (h : i < 17) : (sRow l k).getD i 0 = wI l i := by
 unfold sRow
 rw [List.getD_eq_getElem?_getD, List.getElem?_map, List.getElem?_range (by simpa [zr] using h)]
 simp [hi]
def sA (l : List UInt8) : Array Value := ((sRow l 16).map iv).toArray
theorem qbo (l : List UInt8) : (Tryz.prog.info? 91).map (·.size) = some (sA l).size := ivS_sizeT (qca l 16)
theorem qeb (l : List UInt8) : zS.size = (sA l).size := ivS_oldT (qca l 16)
theorem qd3 (l : List UInt8) : (sA l).all (·.oneCell') = true := ivS_allT _
section
set_option maxRecDepth 100000 in
set_option maxHeartbeats 1000000 in
theorem scalarOfG (s : ByteArray) (hs : 32 ≤ s.size) (w : World) :
  Calls Tryz.prog 62 #[.string s] w fun e w' => e = .returned (.agg (sA (qax s))) ∧ Below w.heap.size w w' := by
 have hz := zeroS
 have HS := qaf hs
 clear hs
 obtain ⟨l, HL⟩ : ∃ l, Hid (l = qax s) := ⟨_, qaf rfl⟩
 go_enter Tryz.func62, Tryz.ntmps62
 go_wp2_with fail
 go_loopw [4] (fun i wr => ∃ k : Nat, k ≤ 16 ∧ i = .int .i64 ((2 * k : Nat) : Int) ∧ Hid (wr.heap[w.heap.size]? = some (.cells zS 91 (0, 0))) ∧ Hid (wr.heap[w.heap.size + 1]? = some (.cells ((sRow l k).map iv).toArray 91 (0, 0))) ∧ Hid (Below w.heap.size w wr)) (fun i _ => 32 - (intOf i).toNat)
 case atStart => exact ⟨0, Nat.zero_le _, rfl, (heap_alloc_old _ _ (by simp)).trans (heap_alloc_new _ _), by rw [sRow_zero]; exact heap_alloc2_new _ _ _, by show Below _ _ _; go_grown⟩
 case round =>
  obtain ⟨k, hk, rfl, H0, H1, HB⟩ := hrel
  obtain ⟨i, Hi⟩ : ∃ i, Hid (i = 2 * k) := ⟨_, qaf rfl⟩
  rw [← Hi.out]
  by_cases hlt : k < 16
  ·
   obtain ⟨i1, Hi1⟩ : ∃ i1, Hid (i1 = i + 1) := ⟨_, qaf rfl⟩
   have e1 : (i : Int) + 1 = (i1 : Int) := by have := Hi1.out; omega
   have e2 : (i : Int) / 2 = (k : Int) := by have := Hi.out; omega
   have e3 : (i : Int) + 2 = ((2 * (k + 1) : Nat) : Int) := by have := Hi.out; omega
   have bi : (i : Int) < 32 := by have := Hi.out; omega
   have bk : (k : Int) < 17 := by omega
   have bi2 : (i1 : Int) < 32 := by have := Hi.out; omega
   have hx0 := strAt s i (by have := HS.out; omega)
   have hx1 := strAt s i1 (by have := HS.out; omega)
   obtain ⟨x, HX⟩ : ∃ x, Hid (x = C8 ((qax s).getD i 0)) := ⟨_, qaf rfl⟩
   obtain ⟨y, HY⟩ : ∃ x, Hid (x = C8 ((qax s).getD i1 0)) := ⟨_, qaf rfl⟩
   rw [← HX.out] at hx0
   rw [← HY.out] at hx1
   have x0 : 0 ≤ x := by rw [HX.out]; exact qcr _
   have x1 : x < 256 := by rw [HX.out]; exact C8_lt _
   have y0 : 0 ≤ y := by rw [HY.out]; exact qcr _
   have y1 : y < 256 := by rw [HY.out]; exact C8_lt _
   have HW : Hid (x + 256 * y = wI l k) := by
    show _ = _
    unfold wI
    rw [HL.out, HX.out, HY.out, Hi1.out, Hi.out]
   have c1 := qaP (l := sRow l k) (T := 91) (fr := (0, 0)) H1.out k (by rw [qca]; omega)
   have f1 := frozen_of_row wr (w.heap.size + 1) k _ _ H1.out
   go_wp2_with fail
   go_region
   go_wp2_with fail
   refine ⟨⟨k + 1, by omega, rfl, qdl _ _ H0.out (by omega), ?_, (HB.out.setCell (by show _ ≤ _; simp) _).drew⟩, by simp [intOf]; omega⟩
   have e := qaA H1.out k (iv (x + 256 * y))
   have e4 : (sRow l k).set k (x + 256 * y) = sRow l (k + 1) := by rw [HW.out]; exact sRow_step l k (by omega)
   rw [← List.map_set, e4] at e
   exact e
  ·
   obtain rfl : k = 16 := by omega
   obtain rfl : i = 32 := Hi.out
   have bi : (32 : Int) ≤ ((32 : Nat) : Int) := by omega
   have H1' : Hid (wr.heap[w.heap.size + 1]? = some (.cells (sA l) 91 (0, 0))) := H1.out
   clear H1 hlt hk
   go_wp2_with (first
    | (refine wpList_load_row (by rfl) 91 (.tmp 3) (by rfl) (w.heap.size + 1) (by rfl) 91 (sA l) (0, 0) _ H1'.out qbw rfl (qbo _) ?_)
    | (refine wpList_store_row (by rfl) 91 (.tmp 2) (.tmp 23) (by rfl) w.heap.size (sA l) (by rfl) (by rfl) 91 _ H0.out (qbo _) (qeb _) (qd3 _) ?_))
   refine bodyPost_ret (v := .agg (sA l)) (results_cell_row Tryz.results62 _ _ w.heap.size 91 _ (0, 0) _ (by rfl) (setRow_heap _ _ _ _ _ _ H0.out) qbw rfl (qbo _)) rfl ⟨by rw [HL.out], below_setRow HB.out (Nat.le_refl _) _⟩
end
theorem sA_def (l : List UInt8) : sA l = ((sRow l 16).map iv).toArray := rfl
def btI (l : List UInt8) (i : Nat) : Bool := decide (wI l (i / 16) / 2 ^ (i % 16) % 2 = 1)
def one3 : Q3 := ⟨0, 1, 1⟩
def tmQ (d : Nat) (l : List UInt8) (p : Q3) : Nat → Q3
 | 0 => one3
 | k + 1 => if btI l (255 - k) = true then plusD d (plusD d (tmQ d l p k) (tmQ d l p k)) p else plusD d (tmQ d l p k) (tmQ d l p k)
theorem tmQ_ok (d : Nat) (l : List UInt8) (p : Q3) : ∀ k, (tmQ d l p k).Ok
 | 0 => ⟨qbQ, oneP, oneP⟩
 | k + 1 => by
  rw [tmQ]; split
  · exact plusD_ok _ _ _
  · exact plusD_ok _ _ _
theorem builtZ3_gen (b0 b1 b2 b3 b4 b5 b6 b7 b8 b9 c0 c1 c2 c3 c4 c5 c6 c7 c8 c9 : Int) :
  Tryz.prog.built 98 [(1, .agg #[iv b0, iv b1, iv b2, iv b3, iv b4, iv b5, iv b6, iv b7, iv b8, iv b9]), (2, .agg #[iv c0, iv c1, iv c2, iv c3, iv c4, iv c5, iv c6, iv c7, iv c8, iv c9])]
   = some #[iv 0, iv 0, iv 0, iv 0, iv 0, iv 0, iv 0, iv 0, iv 0, iv 0, iv b0, iv b1, iv b2, iv b3, iv b4, iv b5, iv b6, iv b7, iv b8, iv b9, iv c0, iv c1, iv c2, iv c3, iv c4, iv c5, iv c6, iv c7, iv c8, iv c9] := by kernel_rfl
theorem builtZ3 : Tryz.prog.built 98 [(1, .agg (fA 1)), (2, .agg (fA 1))] = some (qA one3) := by
 rw [fA_list, builtZ3_gen]
 unfold qA qL one3
 rw [fL_zero, fL_list]
 rfl
theorem qdz (l : List UInt8) (i : Nat) : 0 ≤ wI l i ∧ wI l i < 65536 := by
 unfold wI
 have a := qcr (l.getD (2 * i) 0)
 have b := C8_lt (l.getD (2 * i) 0)
 have c := qcr (l.getD (2 * i + 1) 0)
 have d := C8_lt (l.getD (2 * i + 1) 0)
 omega
theorem wpBuildQ {P : Program} {ops : Array Oper} {rest : List Oper} {o : Oper} {a : Act} {w : World} {Q : Exit → Act → World → Prop} (hg : o.guard = none) (t : TypeId) (parts : Array (Nat × Operand)) (ho : o.op = .build t parts) (cells : Array Value) (ps : List (Nat × Value))
  (hp : (parts.map fun (i, x) => (i, a.eval x)).toList = ps) (hb : P.built t ps = some cells) (h : wpList P ops Q rest (a.put o.dst (.agg cells)) w) : wpList P ops Q (o :: rest) a w :=
 wpList_build hg t parts ho (by rw [hp, hb]; rfl) (by rw [hp, hb]; exact h)
section
attribute [local irreducible] fA fL qA sA
set_option maxRecDepth 100000 in
set_option maxHeartbeats 4000000 in
theorem timesA (d : Nat) (hd : d < P) (l : List UInt8) (p : Q3) (hp : p.Ok) (w : World) :
  Calls Tryz.prog 34 #[.agg (fA d), .agg (sA l), .agg (qA p)] w fun e w' => e = .returned (.agg (qA (tmQ d l p 256))) ∧ Below w.heap.size w w' := by
 have hz := qcy
 have hzq := zeroQ
 have Hd := qaf hd
 have Hp := qaf hp
 clear hd hp
 go_enter Tryz.func34, Tryz.ntmps34
 go_upto_region 1 with fail
 generalize hW0 : World.alloc _ _ = W0
 have R3 : Hid (W0.heap[w.heap.size]? = some (.cells (fA d) 95 (0, 0))) := by rw [← hW0]; exact at4_0 _ _ _ _ _
 have R4 : Hid (W0.heap[w.heap.size + 1]? = some (.cells (sA l) 91 (0, 0))) := by rw [← hW0]; exact at4_1 _ _ _ _ _
 have R5 : Hid (W0.heap[w.heap.size + 1 + 1]? = some (.cells (qA p) 98 (0, 0))) := by rw [← hW0]; exact at4_2 _ _ _ _ _
 have R6 : Hid (W0.heap[w.heap.size + 1 + 1 + 1]? = some (.cells (qA q0) 98 (0, 0))) := by rw [← hW0]; exact at4_3 _ _ _ _ _
 have BL : Hid (Below w.heap.size w W0) := by rw [← hW0]; show Below _ _ _; go_grown
 clear hW0
 obtain ⟨g4, h4⟩ : ∃ b, b = w.heap.size + 1 := ⟨_, rfl⟩
 obtain ⟨g5, h5⟩ : ∃ b, b = w.heap.size + 1 + 1 := ⟨_, rfl⟩
 obtain ⟨g6, h6⟩ : ∃ b, b = w.heap.size + 1 + 1 + 1 := ⟨_, rfl⟩
 rw [← h6] at R6 ⊢
 rw [← h5] at R5 ⊢
 rw [← h4] at R4 ⊢
 have q34 : w.heap.size < g4 := by omega
 have q45 : g4 < g5 := by omega
 have q56 : g5 < g6 := by omega
 clear h4 h5 h6
 go_wp2_with fail
 refine (qcI _).mono ?_
 rintro e W1 ⟨rfl, hB⟩
 have R3 := qaf (qaa R3.out hB)
 have R4 := qaf (qaa R4.out hB)
 have R5 := qaf (qaa R5.out hB)
 have R6 := qaf (qaa R6.out hB)
 have BL := kTr BL hB
 clear hB
 go_wp2_with fail
 refine (qcI _).mono ?_
 rintro e W2 ⟨rfl, hB⟩
 have R3 := qaf (qaa R3.out hB)
 have R4 := qaf (qaa R4.out hB)
 have R5 := qaf (qaa R5.out hB)
 have R6 := qaf (qaa R6.out hB)
 have BL := kTr BL hB
 clear hB
 have l3 := qae R3.out
 have l4 := qae R4.out
 have l5 := qae R5.out
 have l6 := qae R6.out
 rename_i hk
 refine hk _ _ ?_
 refine wpBuildQ (by rfl) 98 _ (by rfl) (qA one3) [(1, .agg (fA 1)), (2, .agg (fA 1))] (by kernel_rfl) builtZ3 ?_
 go_upto_region 2 with (first | (refine wpList_store_row (by rfl) 98 (.tmp 7) (.tmp 11) (by rfl) W2.heap.size (qA one3) (by rfl) (by rfl) 98 _ (heap_alloc_new _ _) (qaJ _) (qbz _ _) (qbB _) ?_))
 try rw [qal]
 obtain ⟨g7, hg7⟩ : ∃ s, s = W2.heap.size := ⟨_, rfl⟩
 generalize hW3 : World.setRow _ _ _ = W3
 have K3 : Hid (Below W2.heap.size W2 W3) := by rw [← hW3]; exact below_setRow ((Below.refl _ _).alloc (Nat.le_refl _) _) (Nat.le_refl _) _
 have R7 : Hid (W3.heap[g7]? = some (.cells (qA one3) 98 (0, 0))) := by rw [← hW3, hg7]; exact setRow_heap _ _ _ _ _ _ (heap_alloc_new _ _)
 have R3 := qaf (qaa R3.out K3.out)
 have R4 := qaf (qaa R4.out K3.out)
 have R5 := qaf (qaa R5.out K3.out)
 have R6 := qaf (qaa R6.out K3.out)
 have BL : Hid (Below w.heap.size w W3) := BL.out.trans (K3.out.mono BL.out.size)
 have q67 : g6 < g7 := by omega
 rw [← hg7]
 clear hW3 hg7 K3 l3 l4 l5 l6
 go_wp2_with fail
 go_loopw [8] (fun i wr => ∃ k : Nat, k ≤ 256 ∧ i = .int .i64 (255 - (k : Int)) ∧ Hid (wr.heap[w.heap.size]? = some (.cells (fA d) 95 (0, 0))) ∧ Hid (wr.heap[g4]? = some (.cells (sA l) 91 (0, 0))) ∧ Hid (wr.heap[g5]? = some (.cells (qA p) 98 (0, 0))) ∧ Hid (wr.heap[g6]? = some (.cells (qA q0) 98 (0, 0))) ∧ Hid (wr.heap[g7]? = some (.cells (qA (tmQ d l p k)) 98 (0, 0))) ∧ Hid (Below w.heap.size w wr)) (fun i _ => (intOf i + 1).toNat)
 case atStart => exact ⟨0, by omega, rfl, R3, R4, R5, R6, R7, BL⟩
 case round =>
  clear R3 R4 R5 R6 R7 BL
  obtain ⟨k, hk, rfl, R3, R4, R5, R6, R7, BL⟩ := hrel
  by_cases hlt : k < 256
  ·
   obtain ⟨a, Ea⟩ : ∃ a, Hid (a = 255 - k) := ⟨_, qaf rfl⟩
   have ea : (255 : Int) - (k : Int) = (a : Int) := by have := Ea.out; omega
   have ha : a < 256 := by have := Ea.out; omega
   have ba : (0 : Int) ≤ (a : Int) := by omega
   obtain ⟨o, Eo⟩ : ∃ o, Hid (o = tmQ d l p k) := ⟨_, qaf rfl⟩
   have Ho : Hid o.Ok := by rw [Eo.out]; exact tmQ_ok d l p k
   rw [← Eo.out] at R7
   go_wp2_with (first
    | (refine wpList_load_row (by rfl) 95 (.tmp 3) (by rfl) w.heap.size (by rfl) 95 (fA d) (0, 0) _ R3.out qaD rfl (qat _) ?_)
    | (refine wpList_load_row (by rfl) 98 (.tmp 7) (by rfl) g7 (by rfl) 98 (qA o) (0, 0) _ R7.out Tryz.underlying98 rfl (qaJ _) ?_))
   refine (plusA d o o Hd.out Ho.out Ho.out _).mono ?_
   rintro e W4 ⟨rfl, hB⟩
   have R3 := qaf (qaa R3.out hB)
   have R4 := qaf (qaa R4.out hB)
   have R5 := qaf (qaa R5.out hB)
   have R6 := qaf (qaa R6.out hB)
   have R7 := qaf (qaa R7.out hB)
   have BL := kTr BL hB
   clear hB
   obtain ⟨o2, Eo2⟩ : ∃ o2, Hid (o2 = plusD d o o) := ⟨_, qaf rfl⟩
   have Ho2 : Hid o2.Ok := by rw [Eo2.out]; exact plusD_ok _ _ _
   rw [← Eo2.out]
   go_upto_region 6 with (first
    | (refine wpList_store_row (by rfl) 98 (.tmp 7) (.tmp 19) (by rfl) g7 (qA o2) (by rfl) (by rfl) 98 _ R7.out (qaJ _) (qbz _ _) (qbB _) ?_))
   try rw [qal]
   generalize hW5 : World.setRow _ _ _ = W5
   have R3 : Hid (W5.heap[w.heap.size]? = some (.cells (fA d) 95 (0, 0))) := by rw [← hW5]; exact (setRow_other _ _ _ _ (by omega)).trans R3.out
   have R4 : Hid (W5.heap[g4]? = some (.cells (sA l) 91 (0, 0))) := by rw [← hW5]; exact (setRow_other _ _ _ _ (by omega)).trans R4.out
   have R5 : Hid (W5.heap[g5]? = some (.cells (qA p) 98 (0, 0))) := by rw [← hW5]; exact (setRow_other _ _ _ _ (by omega)).trans R5.out
   have R6 : Hid (W5.heap[g6]? = some (.cells (qA q0) 98 (0, 0))) := by rw [← hW5]; exact (setRow_other _ _ _ _ (by omega)).trans R6.out
   have R7 : Hid (W5.heap[g7]? = some (.cells (qA o2) 98 (0, 0))) := by rw [← hW5]; exact setRow_heap _ _ _ _ _ _ R7.out
   have BL : Hid (Below w.heap.size w W5) := by rw [← hW5]; exact below_setRow BL.out (by omega) _
   clear hW5
   obtain ⟨q, Hq⟩ : ∃ q, Hid (q = a / 16) := ⟨_, qaf rfl⟩
   obtain ⟨r, Hr⟩ : ∃ r, Hid (r = a % 16) := ⟨_, qaf rfl⟩
   have eq : (a : Int) / 16 = (q : Int) := by have := Hq.out; omega
   have er : (a : Int) % 16 = (r : Int) := by have := Hr.out; omega
   have bq : (q : Int) < 17 := by have := Hq.out; omega
   have br : (r : Int) < 16 := by have := Hr.out; omega
   have hq16 : q < 16 := by have := Hq.out; omega
   have c1 := qaP (l := sRow l 16) (T := 91) (fr := (0, 0)) (by have e := R4.out; rw [sA_def] at e; exact e) q (by rw [qca]; omega)
   rw [sRow_get l 16 q hq16 (by omega)] at c1
   obtain ⟨x, HX⟩ : ∃ x, Hid (x = wI l q) := ⟨_, qaf rfl⟩
   rw [← HX.out] at c1
   have x0 : 0 ≤ x := by rw [HX.out]; exact (qdz l q).1
   have hnn : 0 ≤ x / 2 ^ r := Int.ediv_nonneg x0 (Int.le_of_lt (Int.pow_pos (by decide)))
   have hb : ((x / 2 ^ r).tmod 2 == 1) = btI l a := by
    rw [Int.tmod_eq_emod_of_nonneg hnn, HX.out, Hq.out, Hr.out]
    unfold btI
    by_cases h : wI l (a / 16) / 2 ^ (a % 16) % 2 = 1
    · rw [h]; simp
    · rw [decide_eq_false h, beq_eq_false_iff_ne]; exact h
   have em : (a : Int) - 1 = 255 - ((k + 1 : Nat) : Int) := by have := Ea.out; omega
   clear hnn
   cases hbt : btI l a
   ·
    rw [hbt] at hb
    have HE : Hid (o2 = tmQ d l p (k + 1)) := by
     show _ = _
     rw [tmQ, ← Ea.out, if_neg (by rw [hbt]; decide), Eo2.out, Eo.out]
    clear hbt
    go_wp2_with fail
    exact ⟨⟨k + 1, by omega, rfl, R3, R4, R5, R6, by rw [← HE.out]; exact R7, BL⟩, by simp [intOf]; omega⟩
   ·
    rw [hbt] at hb
    have HE : Hid (plusD d o2 p = tmQ d l p (k + 1)) := by
     show _ = _
     rw [tmQ, ← Ea.out, if_pos hbt, Eo2.out, Eo.out]
    clear hbt
    go_wp2_with (first
     | (refine wpList_load_row (by rfl) 95 (.tmp 3) (by rfl) w.heap.size (by rfl) 95 (fA d) (0, 0) _ R3.out qaD rfl (qat _) ?_)
     | (refine wpList_load_row (by rfl) 98 (.tmp 7) (by rfl) g7 (by rfl) 98 (qA o2) (0, 0) _ R7.out Tryz.underlying98 rfl (qaJ _) ?_)
     | (refine wpList_load_row (by rfl) 98 (.tmp 5) (by rfl) g5 (by rfl) 98 (qA p) (0, 0) _ R5.out Tryz.underlying98 rfl (qaJ _) ?_))
    refine (plusA d o2 p Hd.out Ho2.out Hp.out _).mono ?_
    rintro e W6 ⟨rfl, hB⟩
    have R3 := qaf (qaa R3.out hB)
    have R4 := qaf (qaa R4.out hB)
    have R5 := qaf (qaa R5.out hB)
    have R6 := qaf (qaa R6.out hB)
    have R7 := qaf (qaa R7.out hB)
    have BL := kTr BL hB
    clear hB c1
    rw [HE.out]
    go_upto_region 4 with (first
     | (refine wpList_store_row (by rfl) 98 (.tmp 7) (.tmp 32) (by rfl) g7 (qA (tmQ d l p (k + 1))) (by rfl) (by rfl) 98 _ R7.out (qaJ _) (qbz _ _) (qbB _) ?_))
    try rw [qal]
    generalize hW7 : World.setRow _ _ _ = W7
    have R3 : Hid (W7.heap[w.heap.size]? = some (.cells (fA d) 95 (0, 0))) := by rw [← hW7]; exact (setRow_other _ _ _ _ (by omega)).trans R3.out
    have R4 : Hid (W7.heap[g4]? = some (.cells (sA l) 91 (0, 0))) := by rw [← hW7]; exact (setRow_other _ _ _ _ (by omega)).trans R4.out
    have R5 : Hid (W7.heap[g5]? = some (.cells (qA p) 98 (0, 0))) := by rw [← hW7]; exact (setRow_other _ _ _ _ (by omega)).trans R5.out
    have R6 : Hid (W7.heap[g6]? = some (.cells (qA q0) 98 (0, 0))) := by rw [← hW7]; exact (setRow_other _ _ _ _ (by omega)).trans R6.out
    have R7 : Hid (W7.heap[g7]? = some (.cells (qA (tmQ d l p (k + 1))) 98 (0, 0))) := by rw [← hW7]; exact setRow_heap _ _ _ _ _ _ R7.out
    have BL : Hid (Below w.heap.size w W7) := by rw [← hW7]; exact below_setRow BL.out (by omega) _
    clear hW7
    go_wp2_with fail
    exact ⟨⟨k + 1, by omega, rfl, R3, R4, R5, R6, R7, BL⟩, by simp [intOf]; omega⟩
  ·
   obtain rfl : k = 256 := by omega
   have bk2 : (255 : Int) - ((256 : Nat) : Int) = -1 := by omega
   clear hlt hk
   go_wp2_with (first
    | (refine wpList_load_row (by rfl) 98 (.tmp 7) (by rfl) g7 (by rfl) 98 (qA (tmQ d l p 256)) (0, 0) _ R7.out Tryz.underlying98 rfl (qaJ _) ?_)
    | (refine wpList_store_row (by rfl) 98 (.tmp 6) (.tmp 33) (by rfl) g6 (qA (tmQ d l p 256)) (by rfl) (by rfl) 98 _ R6.out (qaJ _) (qbz _ _) (qbB _) ?_))
   refine bodyPost_ret (v := .agg (qA (tmQ d l p 256))) (results_cell_row Tryz.results34 _ _ g6 98 _ (0, 0) _ (by rfl) (setRow_heap _ _ _ _ _ _ R6.out) Tryz.underlying98 rfl (qaJ _)) rfl ⟨rfl, below_setRow BL.out (by omega) _⟩
end
end Go.Proofs.YtccgfabojbjmjaaGreatDoor
