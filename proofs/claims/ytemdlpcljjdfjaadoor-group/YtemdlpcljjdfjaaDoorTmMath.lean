import Derived.Test.YtemdlpcljjdfjaaDoorAddsP
import Derived.Test.YtemdlpcljjdfjaaDoorLatTm
import Derived.Test.YtemdlpcljjdfjaaDoorPtMul
/- The variables that Multiplies, Group and Scalars read. -/
namespace Go.Proofs.YtemdlpcljjdfjaaDoor
open Go.ChangeShapes Go.WideShapes Go.ChangeAt Go.RowKit
theorem el_met {L : List (String × DataW Unit)} {W : World} {nm : String} {lay : DataW Unit} {g : Nat} {zs : List Int} {n : Nat} (hL : laidMetH Tryd.prog L W) (hf : L.filter (fun x => x.1 == nm) = [(nm, lay)]) (hg : Tryd.prog.globalNamed nm = some g) (ht : (Tryd.prog.globals[g]?).map (·.type) = some 42) (hl : lay = Lib.tabData .u64 zs) (hn : (zs.map fun z => Value.int .u64 z).toArray = num4A n) : ∃ T fr, W.heap[g]? = some (.cells (num4A n) T fr) := by
  have h1 : laidMetH Tryd.prog (L.filter (fun x => x.1 == nm)) W := laidMetH.filter (fun x => x.1 == nm) hL
  rw [hf, hl] at h1
  exact el_row hg hn (Lib.tabIs_of_head (rest := []) hg ht under33 underU64 cells64 cellsEl h1)
theorem gvC : Tryd.prog.globalNamed "latch/curve.baseCode" = some 1 := by kernel_rfl
theorem gtC : (Tryd.prog.globals[1]?).map (·.type) = some 48 := by kernel_rfl
theorem cellsCode : Tryd.prog.cellsOf 48 = 32 := by kernel_rfl
theorem cellsU8 : Tryd.prog.cellsOf 5 = 1 := by kernel_rfl
theorem underCode32 : Tryd.prog.underlying 48 = some (.array 32 5) := by kernel_rfl
def intsC : List Int := [88, 102, 102, 102, 102, 102, 102, 102, 102, 102, 102, 102, 102, 102, 102, 102, 102, 102, 102, 102, 102, 102, 102, 102, 102, 102, 102, 102, 102, 102, 102, 102]
theorem laidC : (Rows.laid_latch_curve_baseCode : DataW Unit) = Lib.tabData .u8 intsC := by kernel_rfl
theorem numC : (intsC.map fun z => Value.int .u8 z).toArray = bA bcN := by kernel_rfl
theorem code_met {L : List (String × DataW Unit)} {W : World} (hL : laidMetH Tryd.prog L W) (hf : L.filter (fun x => x.1 == "latch/curve.baseCode") = [("latch/curve.baseCode", Rows.laid_latch_curve_baseCode)]) : ∃ T fr, W.heap[1]? = some (.cells (bA bcN) T fr) := by
  have h1 : laidMetH Tryd.prog (L.filter (fun x => x.1 == "latch/curve.baseCode")) W := laidMetH.filter (fun x => x.1 == "latch/curve.baseCode") hL
  rw [hf, laidC] at h1
  have t := Lib.tabIs_of_head (rest := []) gvC gtC underCode32 under8' cellsU8 cellsCode h1
  unfold Lib.TabIs World.var? at t
  rw [gvC] at t
  simp only [Option.bind_some] at t
  split at t
  · rename_i cs ty fr h
    refine ⟨ty, fr, h.trans ?_⟩
    rw [Option.some.inj t, ← numC]
  · cases t
/-- WHAT A ROW's LIST GIVES. -/
theorem glB_of {L : List (String × DataW Unit)} {W : World} (h : laidMetH Tryd.prog L W)
    (fM : L.filter (fun x => x.1 == "latch/field.modulus") = [("latch/field.modulus", Rows.laid_latch_field_modulus)])
    (fR : L.filter (fun x => x.1 == "latch/field.rootOfMinusOne") = [("latch/field.rootOfMinusOne", Rows.laid_latch_field_rootOfMinusOne)])
    (fC : L.filter (fun x => x.1 == "latch/curve.baseCode") = [("latch/curve.baseCode", Rows.laid_latch_curve_baseCode)])
    (fO : L.filter (fun x => x.1 == "latch/curve.one") = [("latch/curve.one", Rows.laid_latch_curve_one)])
    (fD : L.filter (fun x => x.1 == "latch/curve.d") = [("latch/curve.d", Rows.laid_latch_curve_d)])
    (fT : L.filter (fun x => x.1 == "latch/curve.twoD") = [("latch/curve.twoD", Rows.laid_latch_curve_twoD)]) : GlB W :=
  ⟨⟨el_met h fT gvT gtT laidT numT, el_met h fO gvO gtO laidO numO, el_met h fM gvM gtM laidM numM, el_met h fD gvD gtD laidD numD, el_met h fR gvR gtR laidR numR⟩, code_met h fC⟩
/-- A WORLD FOR THE WITNESS. -/
noncomputable def laidWorldB (os : Os) : World :=
  { laidWorldA os with heap := putR 1 (intsC.map fun z => Value.int .u8 z).toArray (laidWorldA os).heap }
end Go.Proofs.YtemdlpcljjdfjaaDoor
/- So many times a point: the program's way. Plain mathematics. -/
namespace Go.Proofs.YtemdlpcljjdfjaaDoor
/-! ### Decoded points lie on the curve -/
theorem on_of (d x y : Fin P) (h : x * x * (y * y * d + 1) = y * y - 1) : y * y = 1 + x * x + d * (x * x) * (y * y) := by grind
theorem sq_two (t r v u m : Fin P) (e : r * r + 1 = 0) (h : t * t * v = m) (hm : m + u = 0) : t * r * (t * r) * v = u := by grind
theorem root_sq {y : Nat} (hb : rootB (uN y) (vN y) = true) : tau (rootV (uN y) (vN y)) * tau (rootV (uN y) (vN y)) * tau (vN y) = tau (uN y) := by
  unfold rootB at hb
  have hb := of_decide_eq_true hb
  unfold rootV
  by_cases h1 : sqrN (uN y) (vN y) = uN y
  · rw [if_pos h1]
    have e : tau (sqrN (uN y) (vN y)) = tau (uN y) := by rw [h1]
    unfold sqrN at e
    rw [tau_mP, tau_mP] at e
    exact e
  · rw [if_neg h1]
    have h2 := hb.resolve_left h1
    rw [if_pos h2]
    have e : tau (sqrN (uN y) (vN y)) = tau (sP 0 (uN y)) := by rw [h2]
    unfold sqrN at e
    rw [tau_mP, tau_mP] at e
    rw [tau_mP]
    exact sq_two _ _ _ _ _ rm_e e (opp_e (uN_lt y))
theorem tau_uN (y : Nat) : tau (uN y) = tau y * tau y - 1 := by
  unfold uN; rw [tau_sP _ _ one_lt, tau_mP, tau_one]
theorem tau_vN (y : Nat) : tau (vN y) = tau y * tau y * dK + 1 := by
  unfold vN dK; rw [tau_aP, tau_mP, tau_mP, tau_one]
theorem neg_mul_self (a b : Fin P) (h : a + b = 0) : a * a = b * b := by grind
theorem root_on {y : Nat} (odd : Bool) (hb : rootB (uN y) (vN y) = true) : OnC (tau (xsN y odd)) (tau y) := by
  have h := root_sq hb
  have hx : tau (xsN y odd) * tau (xsN y odd) = tau (rootV (uN y) (vN y)) * tau (rootV (uN y) (vN y)) := by
    unfold xsN
    split
    · exact neg_mul_self _ _ (opp_e (rootV_lt _ _))
    · rfl
  rw [tau_uN, tau_vN, ← hx] at h
  exact on_of _ _ _ h
theorem dcP_on {m : Nat} (h : dcB m = true) : ∃ x y, x < P ∧ y < P ∧ OnC (tau x) (tau y) ∧ dcP m = ptOf x y := by
  unfold dcP
  rw [if_pos h]
  unfold dcB at h
  rw [Bool.and_eq_true] at h
  have hx := h.2
  unfold xofB at hx
  have hb : rootB (uN (ofbV (dcY m))) (vN (ofbV (dcY m))) = true := by
    by_cases hb : rootB (uN (ofbV (dcY m))) (vN (ofbV (dcY m))) = true
    · exact hb
    · rw [if_neg hb] at hx; cases hx
  refine ⟨_, _, xofV_lt _ _, ofbV_lt _, ?_, rfl⟩
  unfold xofV
  rw [if_pos hb]
  exact root_on _ hb
theorem RP_of {x y : Nat} (hx : x < P) (hy : y < P) (ho : OnC (tau x) (tau y)) : RP (ptOf x y) ⟨tau x, tau y, ho⟩ := by
  refine ⟨⟨hx, hy, one_lt, mP_lt _ _⟩, ?_, ?_, ?_, ?_⟩
  · show tau 1 ≠ 0
    rw [tau_one]; exact one_ne
  · show tau x = tau x * tau 1
    rw [tau_one, Fin.mul_one]
  · show tau y = tau y * tau 1
    rw [tau_one, Fin.mul_one]
  · show tau (mP x y) = tau x * tau y * tau 1
    rw [tau_one, Fin.mul_one, tau_mP]
theorem RQ_of {x y : Nat} (hx : x < P) (hy : y < P) (ho : OnC (tau x) (tau y)) : RQ (q3Of x y) ⟨tau x, tau y, ho⟩ := by
  refine ⟨⟨hx, hy, one_lt⟩, ?_, ?_, ?_⟩
  · show tau 1 ≠ 0
    rw [tau_one]; exact one_ne
  · show tau x = tau x * tau 1
    rw [tau_one, Fin.mul_one]
  · show tau y = tau y * tau 1
    rw [tau_one, Fin.mul_one]
/-! ### The program's way -/
theorem RP_zero : RP zeroPt g0 := by
  refine ⟨zeroPt_ok, ?_, ?_, ?_, ?_⟩
  · show tau 1 ≠ 0
    rw [tau_one]; exact one_ne
  · show tau 0 = 0 * tau 1
    rw [tau_zero, Fin.zero_mul]
  · show tau 1 = 1 * tau 1
    rw [Fin.one_mul]
  · show tau 0 = 0 * 1 * tau 1
    rw [tau_zero, Fin.zero_mul, Fin.zero_mul]
theorem RP_dblN {p : Pt} {a : G} (h : RP p a) : ∀ k, RP (dblN k p) (gMul (2 ^ k) a)
  | 0 => by rw [Nat.pow_zero, gMul_one]; exact h
  | k + 1 => by rw [Nat.pow_succ, Nat.mul_comm, gMul_dbl]; exact RP_dbl (RP_dblN h k)
noncomputable def gB (A : Nat → G) : Nat → Nat → G
  | 0, _ => g0
  | i + 1, c => if c < 2 ^ i then gB A i c else gAdd (gB A i (c - 2 ^ i)) (A i)
theorem RP_smB {f : Nat → Pt} {A : Nat → G} : ∀ i, (∀ j, j < i → RP (f j) (A j)) → ∀ c, RP (smB f i c) (gB A i c)
  | 0, _, _ => RP_zero
  | i + 1, h, c => by
    rw [smB, gB]
    split
    · exact RP_smB i (fun j hj => h j (by omega)) c
    · exact RP_add (RP_smB i (fun j hj => h j (by omega)) _) (h i (by omega))
/-- Bits of the words at 'a', each in its place. -/
def sbN (n a : Nat) : Nat → Nat
  | 0 => 0
  | i + 1 => sbN n a i + wd n i / 2 ^ a % 2 * 2 ^ (64 * i)
def hiN (n m : Nat) : Nat → Nat
  | 0 => 0
  | i + 1 => hiN n m i + wd n i / 2 ^ m * 2 ^ (64 * i)
theorem gB_ch (n k : Nat) (a : G) : ∀ i, gB (fun i => gMul (2 ^ (64 * i)) a) i (chN n k i) = gMul (sbN n k i) a
  | 0 => rfl
  | i + 1 => by
    rw [gB, chN, sbN]
    have hc := chN_lt n k i
    have hy : wd n i / 2 ^ k % 2 = 0 ∨ wd n i / 2 ^ k % 2 = 1 := by omega
    rcases hy with e | e
    · rw [e, Nat.zero_mul, Nat.zero_mul, Nat.add_zero, Nat.add_zero, if_pos hc]
      exact gB_ch n k a i
    · rw [e, Nat.one_mul, Nat.one_mul, if_neg (by omega), Nat.add_sub_cancel, gB_ch n k a i, gMul_add]
theorem div_bit (w m : Nat) : w / 2 ^ m = 2 * (w / 2 ^ (m + 1)) + w / 2 ^ m % 2 := by
  rw [Nat.pow_succ, ← Nat.div_div_eq_div_mul]; omega
theorem hiN_step (n m : Nat) : ∀ i, hiN n m i = 2 * hiN n (m + 1) i + sbN n m i
  | 0 => rfl
  | i + 1 => by
    rw [hiN, hiN, sbN, hiN_step n m i]
    have e := div_bit (wd n i) m
    generalize wd n i / 2 ^ (m + 1) = x at *
    generalize wd n i / 2 ^ m % 2 = y at *
    rw [e, Nat.add_mul]
    generalize 2 ^ (64 * i) = z
    have : 2 * x * z = 2 * (x * z) := Nat.mul_assoc _ _ _
    omega
/-- The multiple on its way. -/
def upN (n : Nat) : Nat → Nat
  | 0 => 0
  | k + 1 => 2 * upN n k + sbN n (63 - k) 4
theorem wd_hi (n i : Nat) : wd n i / 2 ^ 64 = 0 := Nat.div_eq_of_lt (wd_lt n i)
theorem upN_hi (n : Nat) : ∀ k, k ≤ 64 → upN n k = hiN n (64 - k) 4
  | 0, _ => by
    simp only [upN, hiN, Nat.sub_zero, wd_hi, Nat.zero_mul, Nat.add_zero]
  | k + 1, h => by
    rw [upN, upN_hi n k (by omega), hiN_step n (64 - (k + 1)), show 64 - (k + 1) = 63 - k by omega, show 63 - k + 1 = 64 - k by omega]
theorem upN_all (n : Nat) (h : n < 115792089237316195423570985008687907853269984665640564039457584007913129639936) : upN n 64 = n := by
  rw [upN_hi n 64 (Nat.le_refl _)]
  simp only [hiN, Nat.sub_self, Nat.pow_zero, Nat.div_one, wd]
  simp only [Nat.mul_zero, Nat.reduceMul, Nat.reducePow, Nat.mul_one, Nat.zero_add]
  omega
theorem RP_mlP {p : Pt} {a : G} (h : RP p a) (n : Nat) : ∀ k, RP (mlP (pwN p) n k) (gMul (upN n k) a)
  | 0 => RP_zero
  | k + 1 => by
    rw [mlP, upN, gMul_add, gMul_dbl, ← gB_ch]
    exact RP_add (RP_dbl (RP_mlP h n k)) (RP_smB 4 (fun j _ => RP_dblN h (64 * j)) _)
/-- THE PROGRAM's MULTIPLE. -/
theorem RP_times {p : Pt} {a : G} (h : RP p a) {n : Nat} (hn : n < 115792089237316195423570985008687907853269984665640564039457584007913129639936) : RP (mlP (pwN p) n 64) (gMul n a) := by
  have := RP_mlP h n 64
  rw [upN_all n hn] at this
  exact this
/-- A point's code is its own. -/
theorem code_RP {p : Pt} {a : G} (h : RP p a) : cdN p = codeN a.y.val (decide (a.x.val % 2 = 1)) := by
  unfold cdN
  rw [show mP p.y (invN p.z) = a.y.val from code_val h.z h.y h.ok.z, show mP p.x (invN p.z) = a.x.val from code_val h.z h.x h.ok.z]
theorem code_RQ {p : Q3} {a : G} (h : RQ p a) : codeD p = strOf (leB (codeN a.y.val (decide (a.x.val % 2 = 1))) 32) := by
  unfold codeD
  rw [invD_invN, show mP p.y (invN p.z) = a.y.val from code_val h.z h.y h.ok.z, show mP p.x (invN p.z) = a.x.val from code_val h.z h.x h.ok.z]
end Go.Proofs.YtemdlpcljjdfjaaDoor
