import Derived.Test.YtccgfabojbjmjaaGreatDoorSg46
import Derived.Test.YtccgfabojbjmjaaGreatDoorSg47
import Derived.Test.YtccgfabojbjmjaaGreatDoorSg49
namespace Go.Proofs.YtccgfabojbjmjaaGreatDoor
open Go.ChangeShapes Go.WideShapes Go.ChangeAt Go.RowKit
theorem el_met {L : List (String × DataW Unit)} {W : World} {nm : String} {lay : DataW Unit} {g : Nat} {zs : List Int} {n : Nat} (hL : laidMetH Tryz.prog L W) (hf : L.filter (fun x => x.1 == nm) = [(nm, lay)]) (hg : Tryz.prog.globalNamed nm = some g) (ht : (Tryz.prog.globals[g]?).map (·.type) = some 80) (hl : lay = Lib.tabData .u64 zs) (hn : (zs.map fun z => Value.int .u64 z).toArray = qac n) : ∃ T fr, W.heap[g]? = some (.cells (qac n) T fr) := by
 have h1 : laidMetH Tryz.prog (L.filter (fun x => x.1 == nm)) W := laidMetH.filter (fun x => x.1 == nm) hL
 rw [hf, hl] at h1
 exact el_row hg hn (Lib.tabIs_of_head (rest := []) hg ht qaI underU64 cells64 cellsEl h1)
theorem gvC : Tryz.prog.globalNamed "latch/curve.baseCode" = some 7 := by kernel_rfl
theorem gtC : (Tryz.prog.globals[7]?).map (·.type) = some 62 := by kernel_rfl
theorem cellsCode : Tryz.prog.cellsOf 62 = 32 := by kernel_rfl
theorem cellsU8 : Tryz.prog.cellsOf 5 = 1 := by kernel_rfl
theorem underCode32 : Tryz.prog.underlying 62 = some (.array 32 5) := by kernel_rfl
def intsC : List Int := [88, 102, 102, 102, 102, 102, 102, 102, 102, 102, 102, 102, 102, 102, 102, 102, 102, 102, 102, 102, 102, 102, 102, 102, 102, 102, 102, 102, 102, 102, 102, 102]
theorem laidC : (Rows.laid_latch_curve_baseCode : DataW Unit) = Lib.tabData .u8 intsC := by kernel_rfl
theorem numC : (intsC.map fun z => Value.int .u8 z).toArray = bA bcN := by kernel_rfl
theorem code_met {L : List (String × DataW Unit)} {W : World} (hL : laidMetH Tryz.prog L W) (hf : L.filter (fun x => x.1 == "latch/curve.baseCode") = [("latch/curve.baseCode", Rows.laid_latch_curve_baseCode)]) : ∃ T fr, W.heap[7]? = some (.cells (bA bcN) T fr) := by
 have h1 : laidMetH Tryz.prog (L.filter (fun x => x.1 == "latch/curve.baseCode")) W := laidMetH.filter (fun x => x.1 == "latch/curve.baseCode") hL
 rw [hf, laidC] at h1
 have t := Lib.tabIs_of_head (rest := []) gvC gtC underCode32 under8' cellsU8 cellsCode h1
 unfold Lib.TabIs World.var? at t
 rw [gvC] at t
 simp only [Option.bind_some] at t
 split at t
 ·
  rename_i cs ty fr h
  refine ⟨ty, fr, h.trans ?_⟩
  rw [Option.some.inj t, ← numC]
 · cases t
theorem glB_of {L : List (String × DataW Unit)} {W : World} (h : laidMetH Tryz.prog L W)
  (fM : L.filter (fun x => x.1 == "latch/field.modulus") = [("latch/field.modulus", Rows.laid_latch_field_modulus)])
  (fR : L.filter (fun x => x.1 == "latch/field.rootOfMinusOne") = [("latch/field.rootOfMinusOne", Rows.laid_latch_field_rootOfMinusOne)])
  (fC : L.filter (fun x => x.1 == "latch/curve.baseCode") = [("latch/curve.baseCode", Rows.laid_latch_curve_baseCode)])
  (fO : L.filter (fun x => x.1 == "latch/curve.one") = [("latch/curve.one", Rows.laid_latch_curve_one)])
  (fD : L.filter (fun x => x.1 == "latch/curve.d") = [("latch/curve.d", Rows.laid_latch_curve_d)])
  (fT : L.filter (fun x => x.1 == "latch/curve.twoD") = [("latch/curve.twoD", Rows.laid_latch_curve_twoD)]) : GlB W :=
 ⟨⟨el_met h fT gvT gtT laidT numT, el_met h fO gvO gtO laidO numO, el_met h fM gvM gtM laidM numM, el_met h fD gvD gtD laidD numD, el_met h fR gvR gtR laidR numR⟩, code_met h fC⟩
noncomputable def laidWorldB (os : Os) : World :=
 { laidWorldA os with heap := putR 7 (intsC.map fun z => Value.int .u8 z).toArray (laidWorldA os).heap }
end Go.Proofs.YtccgfabojbjmjaaGreatDoor
namespace Go.Proofs.YtccgfabojbjmjaaGreatDoor
theorem E8_two : (E8 + 1) + (E8 + 1) = 1 + Qt := by decide +kernel
theorem Qt_two : Qt + Qt = Hf := by decide +kernel
theorem pm_one {t : Nat} (ht : t < P) (h : mP t t = 1) : t = 1 ∨ t = P - 1 := by
 have e : tau t * tau t = 1 := by rw [← qaK, h, qbq]
 have e2 : (tau t - 1) * (tau t + 1) = 0 := by generalize tau t = x at *; grind
 by_cases h1 : tau t - 1 = 0
 ·
  left
  apply qcM ht (by decide)
  rw [qbq]
  generalize tau t = x at *; grind
 ·
  right
  have h2 : tau t + 1 = 0 := by
   by_cases h2 : tau t + 1 = 0
   · exact h2
   · exact absurd e2 (qa3 h1 h2)
  apply qcM ht (by decide)
  have e3 : tau (P - 1) + 1 = 0 := by
   rw [← qbq, ← qcc]; apply Fin.ext; decide +kernel
  generalize tau (P - 1) = m at *
  generalize tau t = x at *; grind
theorem mP_neg {w : Nat} (hw : w < P) : mP w (P - 1) = sP 0 w := by
 apply qcM (qaB _ _) (qbO _ _)
 have e3 : tau (P - 1) + 1 = 0 := by
  rw [← qbq, ← qcc]; apply Fin.ext; decide +kernel
 have e4 := opp_e hw
 rw [qaK]
 generalize tau (P - 1) = m at *
 generalize tau (sP 0 w) = s at *
 generalize tau w = x at *; grind
theorem root_there {u v x : Nat} (hu : u < P) (hv : v < P) (h0 : v % P ≠ 0) (hx : x < P) (h : mP (mP x x) v = u) : qcV u v = true := by
 have hw : mP u (qd8 v) = mP x x := by rw [← h, qcD, mP_inv h0, mP_one (qaB _ _)]
 unfold qcV
 apply decide_eq_true
 rw [test_one hu h0, test_two hu h0, root_same hu hv h0, ← qb8, E8_two, qb8, pwP_one (qaB _ _), hw, pwP_mP, ← qb8, Qt_two]
 by_cases hz : x = 0
 ·
  left
  subst hz
  have e0 : mP 0 0 = 0 := by decide +kernel
  have e1 : ∀ t, mP 0 t = 0 := fun t => by unfold mP; rw [Nat.zero_mul, Nat.zero_mod]
  rw [e0, e1]
 ·
  have hm : x % P ≠ 0 := by rw [Nat.mod_eq_of_lt hx]; exact hz
  have ht : mP (pwP x Hf) (pwP x Hf) = 1 := by rw [← qb8, Hf_two, show pwP x (P - 1) = 1 from fermat hm]
  rcases pm_one (pwP_lt _ _) ht with e | e
  · left; rw [e, mP_one (qaB _ _)]
  · right; rw [e, mP_neg (qaB _ _)]
theorem root_sq' {u v : Nat} (hu : u < P) (hb : qcV u v = true) : tau (qce u v) * tau (qce u v) * tau v = tau u := by
 unfold qcV at hb
 have hb := of_decide_eq_true hb
 unfold qce
 by_cases h1 : sqrN u v = u
 ·
  rw [if_pos h1]
  have e : tau (sqrN u v) = tau u := by rw [h1]
  unfold sqrN at e
  rw [qaK, qaK] at e
  exact e
 ·
  rw [if_neg h1]
  have h2 := hb.resolve_left h1
  rw [if_pos h2]
  have e : tau (sqrN u v) = tau (sP 0 u) := by rw [h2]
  unfold sqrN at e
  rw [qaK, qaK] at e
  rw [qaK]
  have e1 := rm_e
  have e2 := opp_e hu
  generalize tau (rtN u v) = t at *
  generalize tau rmN = r at *
  generalize tau (sP 0 u) = m at *
  generalize tau u = uu at *
  generalize tau v = vv at *
  grind
theorem root_two (r x v u : Fin P) (hv : v ≠ 0) (h1 : r * r * v = u) (h2 : x * x * v = u) : r = x ∨ r + x = 0 := by
 have e : (r - x) * (r + x) * v = 0 := by grind
 by_cases h : r - x = 0
 · left; grind
 ·
  right
  by_cases h3 : r + x = 0
  · exact h3
  · exact absurd e (qa3 (qa3 h h3) hv)
theorem xs_of {x y : Nat} (hx : x < P) (h : mP (mP x x) (vN y) = uN y) : qcV (uN y) (vN y) = true ∧ xsN y (decide (x % 2 = 1)) = x := by
 have hu : uN y < P := qbO _ _
 have hv : vN y < P := qcu _ _
 have h0 := vN_ne y
 have hb := root_there hu hv h0 hx h
 refine ⟨hb, ?_⟩
 have hr := root_sq' hu hb
 have hl := rootV_lt (uN y) (vN y)
 have hx2 : tau x * tau x * tau (vN y) = tau (uN y) := by rw [← h, qaK, qaK]
 have hv0 : tau (vN y) ≠ 0 := by
  intro e
  have := (qdF hv).1 e
  rw [this] at h0
  exact h0 rfl
 unfold xsN
 generalize qce (uN y) (vN y) = r at *
 rcases root_two _ _ _ _ hv0 hr hx2 with e | e
 ·
  have e2 : r = x := qcM hl hx e
  subst e2
  rw [if_neg (by simp)]
 ·
  have e3 : r = sP 0 x := by
   apply qcM hl (qbO _ _)
   have e4 := opp_e hx
   generalize tau (sP 0 x) = m at *
   generalize tau r = rr at *
   generalize tau x = xx at *
   grind
  by_cases hz : x = 0
  ·
   subst hz
   rw [opp_zero] at e3
   subst e3
   decide
  ·
   have hp := opp_odd hx hz
   have hne : (decide (r % 2 = 1) != decide (x % 2 = 1)) = true := by
    rw [e3]
    by_cases h1 : x % 2 = 1
    · rw [decide_eq_true h1, decide_eq_false (by rw [hp]; omega)]; rfl
    · rw [decide_eq_false h1, decide_eq_true (by rw [hp]; omega)]; rfl
   rw [if_pos hne, e3]
   apply qcM (qbO _ _) hx
   have e5 := opp_e (qbO 0 x)
   have e6 := opp_e hx
   generalize tau (sP 0 (sP 0 x)) = m at *
   generalize tau (sP 0 x) = n at *
   generalize tau x = xx at *
   grind
end Go.Proofs.YtccgfabojbjmjaaGreatDoor
namespace Go.Proofs.YtccgfabojbjmjaaGreatDoor
def cdG (a : G) : Nat := qcj a.y.val (decide (a.x.val % 2 = 1))
theorem codeN_y {y : Nat} (hy : y < P) (odd : Bool) : dcY (qcj y odd) = y := by
 unfold dcY qcj; rw [qc4] at hy; cases odd <;> simp <;> omega
theorem codeN_o {y : Nat} (hy : y < P) (odd : Bool) : dcO (qcj y odd) = odd := by
 unfold dcO qcj; rw [qc4] at hy; cases odd <;> simp <;> omega
theorem on_of' (d x y : Fin P) (h : y * y = 1 + x * x + d * (x * x) * (y * y)) : x * x * (y * y * d + 1) = y * y - 1 := by grind
theorem G_root (a : G) : mP (mP a.x.val a.x.val) (vN a.y.val) = uN a.y.val := by
 have hu : uN a.y.val < P := qbO _ _
 apply qcM (qaB _ _) hu
 have h := on_of' dK a.x a.y a.on
 rw [qaK, qaK, tau_val]
 have e1 : tau (vN a.y.val) = a.y * a.y * dK + 1 := by
  unfold vN dK; rw [qcc, qaK, qaK, qbq, tau_val]
 have e2 : tau (uN a.y.val) = a.y * a.y - 1 := by
  unfold uN; rw [qdE _ _ qed, qaK, qbq, tau_val]
 rw [e1, e2]; exact h
theorem dec_code (a : G) : dcB (cdG a) = true ∧ dcP (cdG a) = ptOf a.x.val a.y.val := by
 obtain ⟨hb, hx⟩ := xs_of a.x.isLt (G_root a)
 have hy := a.y.isLt
 have o1 : ofbB a.y.val = true := by unfold ofbB; exact decide_eq_true hy
 have o2 : ofbV a.y.val = a.y.val := by unfold ofbV; rw [if_pos hy]
 have h1 : dcB (cdG a) = true := by
  unfold dcB cdG
  rw [codeN_y hy, codeN_o hy, o1, o2, Bool.true_and]
  unfold xofB
  rw [if_pos hb, hx]
  simp
 refine ⟨h1, ?_⟩
 unfold dcP
 rw [if_pos h1]
 unfold cdG
 rw [codeN_y hy, codeN_o hy, o2]
 unfold xofV
 rw [if_pos hb, hx]
end Go.Proofs.YtccgfabojbjmjaaGreatDoor
namespace Go.Proofs.YtccgfabojbjmjaaGreatDoor
open Go.RowKit
theorem cdG_injS {a b : G} (h : cdG a = cdG b) : a = b := by
 have e1 := (dec_code a).2
 have e2 := (dec_code b).2
 rw [h] at e1
 have e3 : ptOf a.x.val a.y.val = ptOf b.x.val b.y.val := e1.symm.trans e2
 exact G.ext' (Fin.ext (congrArg Pt.x e3)) (Fin.ext (congrArg Pt.y e3))
theorem bG_ex : ∃ b : G, RP bpP b := by
 obtain ⟨x, y, hx, hy, ho, e⟩ := dcP_on dcB_B
 exact ⟨⟨tau x, tau y, ho⟩, by rw [← bpP_eq, e]; exact RP_of hx hy ho⟩
noncomputable def bG : G := Classical.choose bG_ex
theorem RP_bG : RP bpP bG := Classical.choose_spec bG_ex
abbrev oRefSign5 : Oper := ⟨some 12, .alloc 98, 0, "sign.go:40", #[], none⟩
abbrev oRefSign6 : Oper := ⟨none, .store 98 (.tmp 12) (.tmp 38), 0, "sign.go:40", #[zeD 5, zeD 4, zeC 4, zeP 0, zeP 1, zeP 2, zeP 3, zeP 4, zeP 5], none⟩
theorem sbytesA (n : Nat) (hn : n < 115792089237316195423570985008687907853269984665640564039457584007913129639936) (w : World) :
  Calls Tryz.prog 40 #[.agg (sA (leB n 32))] w fun e w' => e = .returned (.string (qaL (leB n 32))) ∧ Below w.heap.size w w' := by
 have h := sbytes_any (dB 65536 17 (n : Int)) (qaT _ _ _) (qei _ (by decide) _ _) w
 rw [twoB_leB n 17 16 (by decide)] at h
 rw [sA_dB n hn]
 exact h
theorem qcS (a b : ByteArray) : qax (a ++ b) = qax a ++ qax b := by
 unfold qax; rw [ByteArray.data_append, Array.toList_append]
theorem size_add (a b : ByteArray) : (a ++ b).size = a.size + b.size := by
 rw [← qc3, qcS, List.length_append]; rfl
theorem sdL_len (l : List UInt8) : (sdL l).length = l.length := by unfold sdL; rw [List.length_set, List.length_set]
theorem rkN_len (s : ByteArray) : (rkN s).length = 32 := by unfold rkN; rw [sdL_len, List.length_take, qbj]; rfl
theorem rkN_le (s : ByteArray) : rkN s = leB (qaC (rkN s)) 32 := (leB_valLE _ (rkN_len s)).symm
theorem valLE_lt32 (l : List UInt8) (h : l.length = 32) : qaC l < 115792089237316195423570985008687907853269984665640564039457584007913129639936 := by
 have := valLE_lt l
 rw [h] at this
 exact Nat.lt_of_lt_of_le this (by decide)
theorem qdA (n : Nat) : n % qcB < 115792089237316195423570985008687907853269984665640564039457584007913129639936 := Nat.lt_trans (Nat.mod_lt _ (by decide)) (by decide)
theorem codeD_size (q : Q3) : (codeD q).size = 32 := by unfold codeD; rw [qbY, qav]
noncomputable def rsR (s m : ByteArray) : Nat := qaC (qa5 ((qa5 (qax s)).drop 32 ++ qax m)) % qcB
noncomputable def rsC (s m : ByteArray) : ByteArray := codeD (tmQ crvD (leB (rsR s m) 32) (pofQ crvD bqT) 256)
noncomputable def rsK (s m : ByteArray) : Nat := qaC (qa5 (qax (rsC s m) ++ qax (rkS s) ++ qax m)) % qcB
noncomputable def rsN (s m : ByteArray) : Nat := (rsK s m * qaC (rkN s) + rsR s m) % qcB
noncomputable def rsS (s m : ByteArray) : ByteArray := if s.size = 32 then rsC s m ++ qaL (leB (rsN s m) 32) else ⟨#[]⟩
section
attribute [local irreducible] fA fL qA qL sA sLs crvD qd7 pofQ codeD tmQ
set_option maxRecDepth 100000 in
set_option maxHeartbeats 4000000 in
theorem refSignA (s m : ByteArray) (hm : m.size ≤ 140737488351232) (w : World) :
  Calls Tryz.prog 11 #[.string s, .string m] w fun e w' => e = .returned (.tuple #[.string (rsS s m), .int .i64 (rkE s)]) ∧ Below w.heap.size w w' := by
 have hz := qcy
 have hzq := zeroQ
 have hzs := zeroS
 have Hm := qaf hm
 clear hm
 go_enter Tryz.func11, Tryz.ntmps11
 go_wp2_with fail
 refine (refKeyA s _).mono ?_
 rintro e W1 ⟨rfl, hB⟩
 have BL := qaf hB
 clear hB
 by_cases h32 : s.size = 32
 ·
  have HS := qaf h32
  have E0 : rkE s = 0 := by unfold rkE; rw [if_pos h32]
  rw [E0]
  clear h32
  obtain ⟨ky, Eky⟩ : ∃ k, Hid (k = rkS s) := ⟨_, qaf rfl⟩
  have Hky : Hid (ky.size = 32) := by show _ = _; rw [Eky.out]; unfold rkS; rw [if_pos HS.out]; exact codeD_size _
  rw [← Eky.out]
  go_wp2_with fail
  refine (refSecret s (by rw [HS.out]; decide) _).mono ?_
  rintro e W2 ⟨rfl, hB⟩
  have BL := kTr BL hB
  clear hB
  obtain ⟨l, El⟩ : ∃ l, Hid (l = rkN s) := ⟨_, qaf rfl⟩
  rw [show sdL ((qa5 (qax s)).take 32) = l from El.out.symm]
  obtain ⟨pf, Ep⟩ : ∃ l, Hid (l = qaL ((qa5 (qax s)).drop 32)) := ⟨_, qaf rfl⟩
  have Hpf : Hid (pf.size = 32) := by show _ = _; rw [Ep.out, qbY, List.length_drop, qbj]
  rw [← Ep.out]
  go_upto_region 5 with (first | (refine wpList_store_row (by rfl) 91 (.tmp 8) (.tmp 27) (by rfl) W2.heap.size (sA l) (by rfl) (by rfl) 91 _ (heap_alloc_new _ _) (qbo _) (qeb _) (qd3 _) ?_))
  try rw [qal]
  obtain ⟨g8, hg8⟩ : ∃ q, q = W2.heap.size := ⟨_, rfl⟩
  generalize hW3 : World.setRow _ _ _ = W3
  have K3 : Hid (Below W2.heap.size W2 W3) := by rw [← hW3]; exact below_setRow ((Below.refl _ _).alloc (Nat.le_refl _) _) (Nat.le_refl _) _
  have RA : Hid (W3.heap[g8]? = some (.cells (sA l) 91 (0, 0))) := by rw [← hW3, hg8]; exact setRow_heap _ _ _ _ _ _ (heap_alloc_new _ _)
  have BL : Hid (Below w.heap.size w W3) := BL.out.trans (K3.out.mono BL.out.size)
  rw [← hg8]
  clear hW3 hg8 K3
  have hs1 : pf.size + m.size ≤ 9223372036854775807 := by have := Hm.out; have := Hpf.out; omega
  go_wp2_with fail
  clear hs1
  obtain ⟨r, Er⟩ : ∃ r, Hid (r = rsR s m) := ⟨_, qaf rfl⟩
  refine (refHashed (pf ++ m) (by have := Hm.out; rw [size_add, Hpf.out]; omega) r (by rw [Er.out, qcS, Ep.out, qa6]; rfl) _).mono ?_
  rintro e W4 ⟨rfl, hB⟩
  have RA := qaf (qaa RA.out hB)
  have BL := kTr BL hB
  clear hB
  obtain ⟨lr, Elr⟩ : ∃ l, Hid (l = leB r 32) := ⟨_, qaf rfl⟩
  rw [← Elr.out]
  go_upto_region 6 with (first | (refine wpList_store_row (by rfl) 91 (.tmp 10) (.tmp 32) (by rfl) W4.heap.size (sA lr) (by rfl) (by rfl) 91 _ (heap_alloc_new _ _) (qbo _) (qeb _) (qd3 _) ?_))
  try rw [qal]
  obtain ⟨g10, hg10⟩ : ∃ q, q = W4.heap.size := ⟨_, rfl⟩
  generalize hW5 : World.setRow _ _ _ = W5
  have K5 : Hid (Below W4.heap.size W4 W5) := by rw [← hW5]; exact below_setRow ((Below.refl _ _).alloc (Nat.le_refl _) _) (Nat.le_refl _) _
  have RS : Hid (W5.heap[g10]? = some (.cells (sA lr) 91 (0, 0))) := by rw [← hW5, hg10]; exact setRow_heap _ _ _ _ _ _ (heap_alloc_new _ _)
  have RA := qaf (qaa RA.out K5.out)
  have BL : Hid (Below w.heap.size w W5) := BL.out.trans (K5.out.mono BL.out.size)
  rw [← hg10]
  clear hW5 hg10 K5
  go_wp2_with fail
  refine (curveA _).mono ?_
  rintro e W5b ⟨rfl, hB⟩
  have RA := qaf (qaa RA.out hB)
  have RS := qaf (qaa RS.out hB)
  have BL := kTr BL hB
  clear hB
  obtain ⟨d, Ed⟩ : ∃ d, Hid (d = crvD) := ⟨_, qaf rfl⟩
  have Hd : Hid (d < P) := by rw [Ed.out]; exact crvD_lt
  rw [← Ed.out]
  go_upto_region 7 with (first | (refine wpList_store_row (by rfl) 95 (.tmp 11) (.tmp 33) (by rfl) W5b.heap.size (fA d) (by rfl) (by rfl) 95 _ (heap_alloc_new _ _) (qat _) (qaU _ _) (qaS _) ?_))
  try rw [qal]
  obtain ⟨g11, hg11⟩ : ∃ q, q = W5b.heap.size := ⟨_, rfl⟩
  generalize hW6 : World.setRow _ _ _ = W6
  have K6 : Hid (Below W5b.heap.size W5b W6) := by rw [← hW6]; exact below_setRow ((Below.refl _ _).alloc (Nat.le_refl _) _) (Nat.le_refl _) _
  have RD : Hid (W6.heap[g11]? = some (.cells (fA d) 95 (0, 0))) := by rw [← hW6, hg11]; exact setRow_heap _ _ _ _ _ _ (heap_alloc_new _ _)
  have RS := qaf (qaa RS.out K6.out)
  have RA := qaf (qaa RA.out K6.out)
  have BL : Hid (Below w.heap.size w W6) := BL.out.trans (K6.out.mono BL.out.size)
  rw [← hg11]
  clear hW6 hg11 K6
  obtain ⟨Bq, EBq⟩ : ∃ d, Hid (d = pofQ crvD bqT) := ⟨_, qaf rfl⟩
  have HBq : Hid Bq.Ok := by rw [EBq.out]; exact pofQ_ok _ _
  have lD := qae RD.out
  have lS := qae RS.out
  go_cut [12] from 34 to 38 (fun s' wx => ∃ g, s' = .pointer (some ⟨g, 0, none⟩) ∧ Hid (wx.heap[g]? = some (.cells (qA (tmQ d lr Bq 256)) 98 (0, 0))) ∧ Hid (Below W6.heap.size W6 wx))
  case first =>
   refine wp_region_held_drew (S := fun w' => w'.rangeAt g11 0 (fL d) ∧ w'.rangeAt g10 0 (sLs lr)) (by kernel_rfl) ⟨qaW RD.out, qbn RS.out⟩ (fun hHeld => ?_)
   have KV1 : Hid (Below W6.heap.size W6 W6.drew) := (Below.refl _ _).drew
   obtain ⟨V1, hV1⟩ : ∃ V, V = W6.drew := ⟨_, rfl⟩
   rw [← hV1] at hHeld KV1 ⊢
   clear hV1
   refine wpAnyH_take (i := 0) (oi := ⟨some 34, .load 95 (.tmp 11), 95, "sign.go:40", #[], none⟩) (v := .agg (fA d)) rfl (by kernel_rfl) (by kernel_rfl) (by kernel_rfl) (fun _ _ _ h => h) (qdB (by rfl) _ rfl g11 0 d rfl (fun w h => h.1)) hHeld ?_
   simp only [zaP, zsT, zsZ, zsS]
   refine wpAnyH_take (i := 1) (oi := ⟨some 35, .load 91 (.tmp 10), 91, "sign.go:40", #[], none⟩) (v := .agg (sA lr)) rfl (by kernel_rfl) (by kernel_rfl) (by kernel_rfl) (fun _ _ _ h => h) (yldS (by rfl) _ rfl g10 0 lr rfl (fun w h => h.2)) hHeld ?_
   simp only [zaP, zsT, zsZ, zsS]
   refine wpAnyH_take (i := 2) (oi := ⟨some 36, .load 95 (.tmp 11), 95, "sign.go:40", #[], none⟩) (v := .agg (fA d)) rfl (by kernel_rfl) (by kernel_rfl) (by kernel_rfl) (fun _ _ _ h => h) (qdB (by rfl) _ rfl g11 0 d rfl (fun w h => h.1)) hHeld ?_
   simp only [zaP, zsT, zsZ, zsS]
   refine wpAnyH_ready (rs := [3, 5]) (by kernel_rfl) (by simp) ?_
   refine AllReadyH.cons (o := ⟨some 37, .call ⟨.value (.func 35), #[.tmp 36], #[95]⟩, 98, "sign.go:40", #[zeD 2], none⟩) rfl (fun K hK => ?_) ?_
   ·
    refine qag (by rfl) _ _ (hrunBaseD _ rfl (.agg (fA d)) rfl V1) _ _ (refBase d Ed.out Bq EBq.out V1) (fun V2 HBx => ?_)
    have KV2 := kTr KV1 HBx
    clear HBx
    refine hK.out _ _ ?_ (fun hHeld => ?_)
    · exact ⟨qad (qaW RD.out) KV2.out lD, qad (qbn RS.out) KV2.out lS⟩
    clear hK K
    try simp only [zaP, zsT, zsZ, zsS]
    refine wpAnyH_ready (rs := [4, 5]) (by kernel_rfl) (by simp) ?_
    refine AllReadyH.cons (o := ⟨some 38, .call ⟨.value (.func 34), #[.tmp 34, .tmp 35, .tmp 37], #[95, 91, 98]⟩, 98, "sign.go:40", #[zeD 0, zeD 1, zeD 3, zeC 3], none⟩) rfl (fun K hK => ?_) ?_
    ·
     refine qag (by rfl) _ _ (qcJ _ _ _ rfl (.agg (fA d)) (.agg (sA lr)) (.agg (qA Bq)) rfl rfl rfl V2) _ _ (timesA d Hd.out lr Bq HBq.out V2) (fun V3 HBx => ?_)
     have KV3 := kTr KV2 HBx
     clear HBx
     refine hK.out _ _ ?_ (fun hHeld => ?_)
     · exact ⟨qad (qaW RD.out) KV3.out lD, qad (qbn RS.out) KV3.out lS⟩
     clear hK K
     try simp only [zaP, zsT, zsZ, zsS]
     refine wpAnyH_ready (rs := [5]) (by kernel_rfl) (by simp) ?_
     refine AllReadyH.cons (o := oRefSign5) rfl (fun K hK => ?_) AllReadyH.nil
     refine qam (w' := V3.alloc (.cells (qA q0) 98)) (by rfl) (.pointer (some ⟨V3.heap.size, 0, none⟩)) (qbH rfl V3) ?_
     obtain ⟨gg4, hgg4⟩ : ∃ g, g = V3.heap.size := ⟨_, rfl⟩
     have ZN : Hid ((V3.alloc (.cells (qA q0) 98)).heap[gg4]? = some (.cells (qA q0) 98 (0, 0))) := by rw [hgg4]; exact heap_alloc_new _ _
     have KV4 : Hid (Below W6.heap.size W6 (V3.alloc (.cells (qA q0) 98))) := KV3.out.alloc KV3.out.size _
     have GG : Hid (W6.heap.size ≤ gg4) := by rw [hgg4]; exact KV3.out.size
     rw [← hgg4]
     obtain ⟨V4, hV4⟩ : ∃ V, V = V3.alloc (.cells (qA q0) 98) := ⟨_, rfl⟩
     rw [← hV4] at ZN KV4 ⊢
     clear hV4 hgg4
     refine hK.out _ _ ?_ (fun hHeld => ?_)
     · exact ⟨qad (qaW RD.out) KV4.out lD, qad (qbn RS.out) KV4.out lS⟩
     clear hK K
     try simp only [zaP, zsT, zsZ, zsS]
     refine wpAnyH_ready (rs := [6]) (by kernel_rfl) (by simp) ?_
     refine AllReadyH.cons (o := oRefSign6) rfl (fun K hK => ?_) AllReadyH.nil
     refine qaj _ (by rfl) 98 (.tmp 12) (.tmp 38) (by rfl) (gg4) (qA (tmQ d lr Bq 256)) (by rfl) (by rfl) 98 _ ZN.out (qaJ _) (qbz _ _) (qbB _) ?_
     rw [qal]
     refine hK.out _ _ ?_ (fun hHeld => ?_)
     · exact ⟨qak (qad (qaW RD.out) KV4.out lD) (Nat.ne_of_lt (Nat.lt_of_lt_of_le lD GG.out)), qak (qad (qbn RS.out) KV4.out lS) (Nat.ne_of_lt (Nat.lt_of_lt_of_le lS GG.out))⟩
     clear hK K
     try simp only [zaP, zsT, zsZ, zsS]
     refine wpAnyH_done (by kernel_rfl) ?_ _
     go_wp2_with fail
     go_meet
     case rel => exact ⟨gg4, rfl, qaf (setRow_heap _ _ _ _ _ _ ZN.out), qaf (below_setRow KV4.out GG.out _)⟩
    refine AllReadyH.cons (o := oRefSign5) rfl (fun K hK => ?_) ?_
    ·
     refine qam (w' := V2.alloc (.cells (qA q0) 98)) (by rfl) (.pointer (some ⟨V2.heap.size, 0, none⟩)) (qbH rfl V2) ?_
     obtain ⟨gg6, hgg6⟩ : ∃ g, g = V2.heap.size := ⟨_, rfl⟩
     have ZN : Hid ((V2.alloc (.cells (qA q0) 98)).heap[gg6]? = some (.cells (qA q0) 98 (0, 0))) := by rw [hgg6]; exact heap_alloc_new _ _
     have KV6 : Hid (Below W6.heap.size W6 (V2.alloc (.cells (qA q0) 98))) := KV2.out.alloc KV2.out.size _
     have GG : Hid (W6.heap.size ≤ gg6) := by rw [hgg6]; exact KV2.out.size
     rw [← hgg6]
     obtain ⟨V6, hV6⟩ : ∃ V, V = V2.alloc (.cells (qA q0) 98) := ⟨_, rfl⟩
     rw [← hV6] at ZN KV6 ⊢
     clear hV6 hgg6
     refine hK.out _ _ ?_ (fun hHeld => ?_)
     · exact ⟨qad (qaW RD.out) KV6.out lD, qad (qbn RS.out) KV6.out lS⟩
     clear hK K
     try simp only [zaP, zsT, zsZ, zsS]
     refine wpAnyH_ready (rs := [4]) (by kernel_rfl) (by simp) ?_
     refine AllReadyH.cons (o := ⟨some 38, .call ⟨.value (.func 34), #[.tmp 34, .tmp 35, .tmp 37], #[95, 91, 98]⟩, 98, "sign.go:40", #[zeD 0, zeD 1, zeD 3, zeC 3], none⟩) rfl (fun K hK => ?_) AllReadyH.nil
     refine qag (by rfl) _ _ (qcJ _ _ _ rfl (.agg (fA d)) (.agg (sA lr)) (.agg (qA Bq)) rfl rfl rfl V6) _ _ (timesA d Hd.out lr Bq HBq.out V6) (fun V7 HBx => ?_)
     have KV7 := kTr KV6 HBx
     have ZN : Hid (V7.heap[gg6]? = _) := qaa ZN.out HBx
     clear HBx
     refine hK.out _ _ ?_ (fun hHeld => ?_)
     · exact ⟨qad (qaW RD.out) KV7.out lD, qad (qbn RS.out) KV7.out lS⟩
     clear hK K
     try simp only [zaP, zsT, zsZ, zsS]
     refine wpAnyH_ready (rs := [6]) (by kernel_rfl) (by simp) ?_
     refine AllReadyH.cons (o := oRefSign6) rfl (fun K hK => ?_) AllReadyH.nil
     refine qaj _ (by rfl) 98 (.tmp 12) (.tmp 38) (by rfl) (gg6) (qA (tmQ d lr Bq 256)) (by rfl) (by rfl) 98 _ ZN.out (qaJ _) (qbz _ _) (qbB _) ?_
     rw [qal]
     refine hK.out _ _ ?_ (fun hHeld => ?_)
     · exact ⟨qak (qad (qaW RD.out) KV7.out lD) (Nat.ne_of_lt (Nat.lt_of_lt_of_le lD GG.out)), qak (qad (qbn RS.out) KV7.out lS) (Nat.ne_of_lt (Nat.lt_of_lt_of_le lS GG.out))⟩
     clear hK K
     try simp only [zaP, zsT, zsZ, zsS]
     refine wpAnyH_done (by kernel_rfl) ?_ _
     go_wp2_with fail
     go_meet
     case rel => exact ⟨gg6, rfl, qaf (setRow_heap _ _ _ _ _ _ ZN.out), qaf (below_setRow KV7.out GG.out _)⟩
    exact AllReadyH.nil
   refine AllReadyH.cons (o := oRefSign5) rfl (fun K hK => ?_) ?_
   ·
    refine qam (w' := V1.alloc (.cells (qA q0) 98)) (by rfl) (.pointer (some ⟨V1.heap.size, 0, none⟩)) (qbH rfl V1) ?_
    obtain ⟨gg9, hgg9⟩ : ∃ g, g = V1.heap.size := ⟨_, rfl⟩
    have ZN : Hid ((V1.alloc (.cells (qA q0) 98)).heap[gg9]? = some (.cells (qA q0) 98 (0, 0))) := by rw [hgg9]; exact heap_alloc_new _ _
    have KV9 : Hid (Below W6.heap.size W6 (V1.alloc (.cells (qA q0) 98))) := KV1.out.alloc KV1.out.size _
    have GG : Hid (W6.heap.size ≤ gg9) := by rw [hgg9]; exact KV1.out.size
    rw [← hgg9]
    obtain ⟨V9, hV9⟩ : ∃ V, V = V1.alloc (.cells (qA q0) 98) := ⟨_, rfl⟩
    rw [← hV9] at ZN KV9 ⊢
    clear hV9 hgg9
    refine hK.out _ _ ?_ (fun hHeld => ?_)
    · exact ⟨qad (qaW RD.out) KV9.out lD, qad (qbn RS.out) KV9.out lS⟩
    clear hK K
    try simp only [zaP, zsT, zsZ, zsS]
    refine wpAnyH_ready (rs := [3]) (by kernel_rfl) (by simp) ?_
    refine AllReadyH.cons (o := ⟨some 37, .call ⟨.value (.func 35), #[.tmp 36], #[95]⟩, 98, "sign.go:40", #[zeD 2], none⟩) rfl (fun K hK => ?_) AllReadyH.nil
    refine qag (by rfl) _ _ (hrunBaseD _ rfl (.agg (fA d)) rfl V9) _ _ (refBase d Ed.out Bq EBq.out V9) (fun V10 HBx => ?_)
    have KV10 := kTr KV9 HBx
    have ZN : Hid (V10.heap[gg9]? = _) := qaa ZN.out HBx
    clear HBx
    refine hK.out _ _ ?_ (fun hHeld => ?_)
    · exact ⟨qad (qaW RD.out) KV10.out lD, qad (qbn RS.out) KV10.out lS⟩
    clear hK K
    try simp only [zaP, zsT, zsZ, zsS]
    refine wpAnyH_ready (rs := [4]) (by kernel_rfl) (by simp) ?_
    refine AllReadyH.cons (o := ⟨some 38, .call ⟨.value (.func 34), #[.tmp 34, .tmp 35, .tmp 37], #[95, 91, 98]⟩, 98, "sign.go:40", #[zeD 0, zeD 1, zeD 3, zeC 3], none⟩) rfl (fun K hK => ?_) AllReadyH.nil
    refine qag (by rfl) _ _ (qcJ _ _ _ rfl (.agg (fA d)) (.agg (sA lr)) (.agg (qA Bq)) rfl rfl rfl V10) _ _ (timesA d Hd.out lr Bq HBq.out V10) (fun V11 HBx => ?_)
    have KV11 := kTr KV10 HBx
    have ZN : Hid (V11.heap[gg9]? = _) := qaa ZN.out HBx
    clear HBx
    refine hK.out _ _ ?_ (fun hHeld => ?_)
    · exact ⟨qad (qaW RD.out) KV11.out lD, qad (qbn RS.out) KV11.out lS⟩
    clear hK K
    try simp only [zaP, zsT, zsZ, zsS]
    refine wpAnyH_ready (rs := [6]) (by kernel_rfl) (by simp) ?_
    refine AllReadyH.cons (o := oRefSign6) rfl (fun K hK => ?_) AllReadyH.nil
    refine qaj _ (by rfl) 98 (.tmp 12) (.tmp 38) (by rfl) (gg9) (qA (tmQ d lr Bq 256)) (by rfl) (by rfl) 98 _ ZN.out (qaJ _) (qbz _ _) (qbB _) ?_
    rw [qal]
    refine hK.out _ _ ?_ (fun hHeld => ?_)
    · exact ⟨qak (qad (qaW RD.out) KV11.out lD) (Nat.ne_of_lt (Nat.lt_of_lt_of_le lD GG.out)), qak (qad (qbn RS.out) KV11.out lS) (Nat.ne_of_lt (Nat.lt_of_lt_of_le lS GG.out))⟩
    clear hK K
    try simp only [zaP, zsT, zsZ, zsS]
    refine wpAnyH_done (by kernel_rfl) ?_ _
    go_wp2_with fail
    go_meet
    case rel => exact ⟨gg9, rfl, qaf (setRow_heap _ _ _ _ _ _ ZN.out), qaf (below_setRow KV11.out GG.out _)⟩
   exact AllReadyH.nil
  case rest =>
   obtain ⟨g12, rfl, RN, X9⟩ := hcut
   have BL : Hid (Below w.heap.size w wc) := BL.out.trans (X9.out.mono BL.out.size)
   have RS := qaf (qaa RS.out X9.out)
   have RA := qaf (qaa RA.out X9.out)
   obtain ⟨q, Eq⟩ : ∃ c, Hid (c = tmQ d lr Bq 256) := ⟨_, qaf rfl⟩
   have Hq : Hid q.Ok := by rw [Eq.out]; exact tmQ_ok _ _ _ _
   rw [← Eq.out] at RN
   clear RD X9
   go_wp2_with (first | (refine wpList_load_row (by rfl) 98 (.tmp 12) (by rfl) g12 (by rfl) 98 (qA q) (0, 0) _ RN.out Tryz.underlying98 rfl (qaJ _) ?_))
   refine (codeA q Hq.out _).mono ?_
   rintro e W9 ⟨rfl, hB⟩
   have BL := kTr BL hB
   have RS := qaf (qaa RS.out hB)
   have RA := qaf (qaa RA.out hB)
   clear hB
   obtain ⟨T, HT⟩ : ∃ T, Hid (T = codeD q) := ⟨_, qaf rfl⟩
   have HTs : Hid (T.size = 32) := by show _ = _; rw [HT.out]; exact codeD_size _
   have HTc : Hid (T = rsC s m) := by show _ = _; rw [HT.out, Eq.out, Ed.out, EBq.out, Elr.out, Er.out]; rfl
   rw [← HT.out]
   have hs2 : T.size + ky.size ≤ 9223372036854775807 := by have := HTs.out; have := Hky.out; omega
   have hs3 : (T ++ ky).size + m.size ≤ 9223372036854775807 := by rw [size_add]; have := Hm.out; have := HTs.out; have := Hky.out; omega
   go_wp2_with fail
   clear hs2 hs3
   obtain ⟨k, Ek⟩ : ∃ r, Hid (r = rsK s m) := ⟨_, qaf rfl⟩
   refine (refHashed (T ++ ky ++ m) (by have := Hm.out; rw [size_add, size_add, HTs.out, Hky.out]; omega) k (by rw [Ek.out, qcS, qcS, HTc.out, Eky.out]; rfl) _).mono ?_
   rintro e W10 ⟨rfl, hB⟩
   have BL := kTr BL hB
   have RS := qaf (qaa RS.out hB)
   have RA := qaf (qaa RA.out hB)
   clear hB
   obtain ⟨lk, Elk⟩ : ∃ l, Hid (l = leB k 32) := ⟨_, qaf rfl⟩
   rw [← Elk.out]
   go_upto_region 10 with (first | (refine wpList_store_row (by rfl) 91 (.tmp 14) (.tmp 46) (by rfl) W10.heap.size (sA lk) (by rfl) (by rfl) 91 _ (heap_alloc_new _ _) (qbo _) (qeb _) (qd3 _) ?_))
   try rw [qal]
   obtain ⟨g14, hg14⟩ : ∃ q, q = W10.heap.size := ⟨_, rfl⟩
   generalize hW11 : World.setRow _ _ _ = W11
   have K11 : Hid (Below W10.heap.size W10 W11) := by rw [← hW11]; exact below_setRow ((Below.refl _ _).alloc (Nat.le_refl _) _) (Nat.le_refl _) _
   have RK : Hid (W11.heap[g14]? = some (.cells (sA lk) 91 (0, 0))) := by rw [← hW11, hg14]; exact setRow_heap _ _ _ _ _ _ (heap_alloc_new _ _)
   have RS := qaf (qaa RS.out K11.out)
   have RA := qaf (qaa RA.out K11.out)
   have BL : Hid (Below w.heap.size w W11) := BL.out.trans (K11.out.mono BL.out.size)
   rw [← hg14]
   clear hW11 hg14 K11
   go_wp2_with (first
    | (refine wpList_load_row (by rfl) 91 (.tmp 14) (by rfl) g14 (by rfl) 91 (sA lk) (0, 0) _ RK.out qbw rfl (qbo _) ?_)
    | (refine wpList_load_row (by rfl) 91 (.tmp 8) (by rfl) g8 (by rfl) 91 (sA l) (0, 0) _ RA.out qbw rfl (qbo _) ?_)
    | (refine wpList_load_row (by rfl) 91 (.tmp 10) (by rfl) g10 (by rfl) 91 (sA lr) (0, 0) _ RS.out qbw rfl (qbo _) ?_))
   obtain ⟨a, Ea⟩ : ∃ a, Hid (a = qaC (rkN s)) := ⟨_, qaf rfl⟩
   have Ela : Hid (l = leB a 32) := by show _ = _; rw [El.out, Ea.out]; exact rkN_le s
   rw [Elk.out, Ela.out, Elr.out]
   refine (refTimesPlus k a r (by rw [Ek.out]; exact qdA _) (by rw [Ea.out]; exact valLE_lt32 _ (rkN_len s)) (by rw [Er.out]; exact qdA _) _).mono ?_
   rintro e W12 ⟨rfl, hB⟩
   have BL := kTr BL hB
   clear hB RK RS RA
   obtain ⟨n, En⟩ : ∃ l, Hid (l = (k * a + r) % qcB) := ⟨_, qaf rfl⟩
   have Hn : Hid (n < 115792089237316195423570985008687907853269984665640564039457584007913129639936) := by rw [En.out]; exact qdA _
   rw [← En.out, ← Elk.out, ← Ela.out, ← Elr.out]
   obtain ⟨ln, Eln⟩ : ∃ l, Hid (l = leB n 32) := ⟨_, qaf rfl⟩
   rw [← Eln.out]
   go_upto_region 11 with (first | (refine wpList_store_row (by rfl) 91 (.tmp 15) (.tmp 50) (by rfl) W12.heap.size (sA ln) (by rfl) (by rfl) 91 _ (heap_alloc_new _ _) (qbo _) (qeb _) (qd3 _) ?_))
   try rw [qal]
   obtain ⟨g15, hg15⟩ : ∃ q, q = W12.heap.size := ⟨_, rfl⟩
   generalize hW13 : World.setRow _ _ _ = W13
   have RN : Hid (W13.heap[g15]? = some (.cells (sA ln) 91 (0, 0))) := by rw [← hW13, hg15]; exact setRow_heap _ _ _ _ _ _ (heap_alloc_new _ _)
   have BL : Hid (Below w.heap.size w W13) := by rw [← hW13]; exact below_setRow (BL.out.alloc BL.out.size _) BL.out.size _
   rw [← hg15]
   clear hW13 hg15
   go_wp2_with (first
    | (refine wpList_load_row (by rfl) 91 (.tmp 15) (by rfl) g15 (by rfl) 91 (sA ln) (0, 0) _ RN.out qbw rfl (qbo _) ?_))
   rw [Eln.out]
   refine (sbytesA n Hn.out _).mono ?_
   rintro e W14 ⟨rfl, hB⟩
   have BL := kTr BL hB
   clear hB RN
   obtain ⟨U, HU⟩ : ∃ T, Hid (T = qaL (leB n 32)) := ⟨_, qaf rfl⟩
   rw [← HU.out]
   have hs4 : T.size + U.size ≤ 9223372036854775807 := by rw [HTs.out, HU.out, qbY, qav]; decide
   go_wp2_with fail
   go_returns
   refine ⟨?_, BL.out⟩
   unfold rsS rsN rkE
   rw [if_pos HS.out, if_pos HS.out, ← HTc.out, ← Ek.out, ← Ea.out, ← Er.out, ← En.out, ← HU.out]; rfl
 ·
  have E1 : rkE s = 1 := by unfold rkE; rw [if_neg h32]
  have E2 : rkS s = ⟨#[]⟩ := by unfold rkS; rw [if_neg h32]
  rw [E1, E2]
  have HN := qaf h32
  clear h32
  go_wp2_with fail
  go_returns
  refine ⟨?_, BL.out⟩
  unfold rsS rkE
  rw [if_neg HN.out, if_neg HN.out]; rfl
end
def cdS (a : G) : ByteArray := qaL (leB (cdG a) 32)
theorem RP_one {p : Pt} {a b : G} (h : RP p a) (k : RP p b) : a = b := by
 apply cdG_injS
 have e1 := code_RP h
 have e2 := code_RP k
 exact e1.symm.trans e2
theorem bqT_bc : bqT = qaL (leB bcN 32) := by
 unfold bqT
 have e : qcj (mP 4 (qcq 5)) false = bcN := by rw [invD_invN]; decide +kernel
 rw [e]
theorem bq_po : poB bqT = true := by rw [bqT_bc]; decide +kernel
theorem bq_pt : poP bqT = bpP := by
 rw [poP_dcP bq_po, ← bpP_eq]
 have e : ksN bqT = bcN := by rw [bqT_bc]; decide +kernel
 rw [e]
theorem RQ_bG : RQ (pofQ crvD bqT) bG := by
 rw [crvD_dN]
 obtain ⟨a, h1, h2⟩ := point_G (s := bqT) (by rw [← poB_same]; exact bq_po)
 rw [bq_pt] at h1
 rw [RP_one RP_bG h1]; exact h2
theorem code_B {n : Nat} (hn : n < 115792089237316195423570985008687907853269984665640564039457584007913129639936) : cdN (mlP (pwN bpP) n 64) = cdG (gMul n bG) := code_RP (RP_times RP_bG hn)
theorem code_Q (l : List UInt8) (h : l.length = 32) : codeD (tmQ crvD l (pofQ crvD bqT) 256) = cdS (gMul (qaC l) bG) := by
 have hq := RQ_bG
 have e := RQ_times hq l (valLE_lt32 l h)
 rw [show tmQ crvD l (pofQ crvD bqT) 256 = tmQ dN l (pofQ crvD bqT) 256 by rw [crvD_dN]]
 exact code_RQ e
theorem key_c (s : ByteArray) : sdC s = cdG (gMul (sdN s) bG) := code_B (sdN_lt s)
theorem key_same (s : ByteArray) : rkS s = lkS s := by
 unfold rkS lkS
 by_cases h : s.size = 32
 · rw [if_pos h, if_pos h, code_Q _ (rkN_len s), key_c]; rfl
 · rw [if_neg h, if_neg h]
theorem keyE_same (s : ByteArray) : rkE s = lkE s := rfl
theorem valLE_le32 (n : Nat) (h : n < 115792089237316195423570985008687907853269984665640564039457584007913129639936) : qaC (leB n 32) = n := valLE_leB n h
theorem r_same (s m : ByteArray) : rsR s m = sgR (sdP s) m := by
 unfold rsR sgR sdP
 rw [qa6]
theorem c_same (s m : ByteArray) : rsC s m = qaL (leB (sgC (sdP s) m) 32) := by
 unfold rsC sgC
 rw [code_Q _ (qav _ _), valLE_le32 _ (by unfold rsR; exact qdA _), code_B (by unfold sgR; exact qdA _), r_same]; rfl
theorem lkS_32 {s : ByteArray} (h : s.size = 32) : lkS s = qaL (leB (sdC s) 32) := by unfold lkS; rw [if_pos h]
theorem k_same {s : ByteArray} (h : s.size = 32) (m : ByteArray) : rsK s m = sgK (sdC s) (sdP s) m := by
 unfold rsK sgK
 rw [c_same, key_same, lkS_32 h, qa6, qa6, List.append_assoc]
theorem sign_same (s m : ByteArray) : rsS s m = lsS s m := by
 unfold rsS lsS
 by_cases h : s.size = 32
 ·
  rw [if_pos h, if_pos h, c_same]
  have e : rsN s m = sgS (sdN s) (sdC s) (sdP s) m := by
   unfold rsN sgS
   rw [k_same h, r_same]; rfl
  rw [e]
  have e2 : ∀ a b : List UInt8, qaL a ++ qaL b = qaL (a ++ b) := by
   intro a b
   have := qcS (qaL a) (qaL b)
   rw [qa6, qa6] at this
   rw [← strOf_bytesOf (qaL a ++ qaL b), this]
  rw [e2]
 · rw [if_neg h, if_neg h]
def seedD : ByteArray := ⟨#[0x9d, 0x61, 0xb1, 0x9d, 0xef, 0xfd, 0x5a, 0x60, 0xba, 0x84, 0x4a, 0xf4, 0x92, 0xec, 0x2c, 0xc4, 0x44, 0x49, 0xc5, 0x69, 0x7b, 0x32, 0x69, 0x19, 0x70, 0x3b, 0xac, 0x03, 0x1c, 0xae, 0x7f, 0x60]⟩
def keyD : ByteArray := ⟨#[0xd7, 0x5a, 0x98, 0x01, 0x82, 0xb1, 0x0a, 0xb7, 0xd5, 0x4b, 0xfe, 0xd3, 0xc9, 0x64, 0x07, 0x3a, 0x0e, 0xe1, 0x72, 0xf3, 0xda, 0xa6, 0x23, 0x25, 0xaf, 0x02, 0x1a, 0x68, 0xf7, 0x07, 0x51, 0x1a]⟩
def keyN : Nat := qaC (qax keyD)
theorem seed_n : sdN seedD = qaC (sdL (cSdH.take 32)) := by
 unfold sdN
 rw [show qax seedD = cSdL from rfl, cSd_hash]
theorem seed_c : cdN (mlP (pwN bpP) (qaC (sdL (cSdH.take 32))) 64) = keyN := by decide +kernel
theorem seed_key : lkS seedD = keyD ∧ lkE seedD = 0 := by
 refine ⟨?_, rfl⟩
 rw [lkS_32 rfl, sdC, seed_n, seed_c]
 decide +kernel
section
attribute [local irreducible] lkS lkE lsS rkS rkE rsS
set_option maxRecDepth 100000 in
set_option maxHeartbeats 1000000 in
theorem signs_any (s m : ByteArray) (hm : m.size ≤ 140737488351232) (w : World) (hG : GlB w) (hK : Tab w) (hO : qcC w) (hE : w.cell? ⟨3, 0, none⟩ = some (rtV 66)) :
  Calls Tryz.prog 3 #[.string s, .string m] w fun e w' => e = .returned (.bool true) ∧ Below w.heap.size w w' := by
 have HG := qaf hG
 have HK := qaf hK
 have HO := qaf hO
 have HE := qaf hE
 have Hm := qaf hm
 have HM : Hid (m.size ≤ maxLen) := by show _ ≤ _; unfold maxLen; omega
 have tE : ∀ {W}, Below w.heap.size w W → W.cell? ⟨3, 0, none⟩ = some (rtV 66) := fun h => (h.cell (World.block_lt_of_cell? w _ HE.out)).trans HE.out
 clear hG hK hO hE hm
 obtain ⟨k1, k2⟩ := seed_key
 have K1 := qaf k1
 have K2 := qaf k2
 clear k1 k2
 go_enter Tryz.func3, Tryz.ntmps3
 go_wp2_with fail
 refine (latchKeyA seedD w HG.out HK.out HE.out).mono ?_
 rintro e W1 ⟨rfl, hB⟩
 have B1 := qaf hB
 clear hB
 rw [K1.out, K2.out]
 unfold keyD
 go_wp2_with fail
 refine (latchKeyA s W1 (HG.out.keep B1.out) (HK.out.below B1.out HK.out.lt) (tE B1.out)).mono ?_
 rintro e W2 ⟨rfl, hB⟩
 have B2 := qaf (B1.out.trans (hB.mono B1.out.size))
 clear hB B1
 obtain ⟨T, HT⟩ : ∃ T, Hid (T = lkS s) := ⟨_, qaf rfl⟩
 obtain ⟨n, Hn⟩ : ∃ n, Hid (n = lkE s) := ⟨_, qaf rfl⟩
 rw [← HT.out, ← Hn.out]
 go_wp2_with fail
 refine (refKeyA s W2).mono ?_
 rintro e W3 ⟨rfl, hB⟩
 have B3 := qaf (B2.out.trans (hB.mono B2.out.size))
 clear hB B2
 rw [key_same, keyE_same, ← HT.out, ← Hn.out]
 go_wp2_with fail
 refine (latchSignA s m HM.out W3 (HG.out.keep B3.out) (HK.out.below B3.out HK.out.lt) (HO.out.below B3.out HO.out.lt) (tE B3.out)).mono ?_
 rintro e W4 ⟨rfl, hB⟩
 have B4 := qaf (B3.out.trans (hB.mono B3.out.size))
 clear hB B3
 obtain ⟨U, HU⟩ : ∃ T, Hid (T = lsS s m) := ⟨_, qaf rfl⟩
 rw [← HU.out, ← Hn.out]
 go_wp2_with fail
 refine (refSignA s m Hm.out W4).mono ?_
 rintro e W5 ⟨rfl, hB⟩
 have B5 := qaf (B4.out.trans (hB.mono B4.out.size))
 clear hB B4
 rw [sign_same, keyE_same, ← HU.out, ← Hn.out]
 go_wp2
 go_returns
 exact ⟨rfl, B5.out⟩
end
end Go.Proofs.YtccgfabojbjmjaaGreatDoor
