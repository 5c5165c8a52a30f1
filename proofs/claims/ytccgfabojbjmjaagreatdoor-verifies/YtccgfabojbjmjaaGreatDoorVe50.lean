import Derived.Test.YtccgfabojbjmjaaGreatDoorVe49
namespace Go.Proofs.YtccgfabojbjmjaaGreatDoor
theorem E8_two : (E8 + 1) + (E8 + 1) = 1 + Qt := by decide +kernel
theorem Qt_two : Qt + Qt = Hf := by decide +kernel
theorem pm_one {t : Nat} (ht : t < P) (h : mP t t = 1) : t = 1 ∨ t = P - 1 := by
 have e : tau t * tau t = 1 := by rw [← tau_mP, h, tau_one]
 have e2 : (tau t - 1) * (tau t + 1) = 0 := by generalize tau t = x at *; grind
 by_cases h1 : tau t - 1 = 0
 ·
  left
  apply tau_inj ht (by decide)
  rw [tau_one]
  generalize tau t = x at *; grind
 ·
  right
  have h2 : tau t + 1 = 0 := by
   by_cases h2 : tau t + 1 = 0
   · exact h2
   · exact absurd e2 (ne_mul h1 h2)
  apply tau_inj ht (by decide)
  have e3 : tau (P - 1) + 1 = 0 := by
   rw [← tau_one, ← tau_aP]; apply Fin.ext; decide +kernel
  generalize tau (P - 1) = m at *
  generalize tau t = x at *; grind
theorem mP_neg {w : Nat} (hw : w < P) : mP w (P - 1) = sP 0 w := by
 apply tau_inj (mP_lt _ _) (sP_lt _ _)
 have e3 : tau (P - 1) + 1 = 0 := by
  rw [← tau_one, ← tau_aP]; apply Fin.ext; decide +kernel
 have e4 := opp_e hw
 rw [tau_mP]
 generalize tau (P - 1) = m at *
 generalize tau (sP 0 w) = s at *
 generalize tau w = x at *; grind
theorem root_there {u v x : Nat} (hu : u < P) (hv : v < P) (h0 : v % P ≠ 0) (hx : x < P) (h : mP (mP x x) v = u) : rootB u v = true := by
 have hw : mP u (invN v) = mP x x := by rw [← h, mP_assoc, mP_inv h0, mP_one (mP_lt _ _)]
 unfold rootB
 apply decide_eq_true
 rw [test_one hu h0, test_two hu h0, root_same hu hv h0, ← pwP_add, E8_two, pwP_add, pwP_one (mP_lt _ _), hw, pwP_mP, ← pwP_add, Qt_two]
 by_cases hz : x = 0
 ·
  left
  subst hz
  have e0 : mP 0 0 = 0 := by decide +kernel
  have e1 : ∀ t, mP 0 t = 0 := fun t => by unfold mP; rw [Nat.zero_mul, Nat.zero_mod]
  rw [e0, e1]
 ·
  have hm : x % P ≠ 0 := by rw [Nat.mod_eq_of_lt hx]; exact hz
  have ht : mP (pwP x Hf) (pwP x Hf) = 1 := by rw [← pwP_add, Hf_two, show pwP x (P - 1) = 1 from fermat hm]
  rcases pm_one (pwP_lt _ _) ht with e | e
  · left; rw [e, mP_one (mP_lt _ _)]
  · right; rw [e, mP_neg (mP_lt _ _)]
theorem root_sq' {u v : Nat} (hu : u < P) (hb : rootB u v = true) : tau (rootV u v) * tau (rootV u v) * tau v = tau u := by
 unfold rootB at hb
 have hb := of_decide_eq_true hb
 unfold rootV
 by_cases h1 : sqrN u v = u
 ·
  rw [if_pos h1]
  have e : tau (sqrN u v) = tau u := by rw [h1]
  unfold sqrN at e
  rw [tau_mP, tau_mP] at e
  exact e
 ·
  rw [if_neg h1]
  have h2 := hb.resolve_left h1
  rw [if_pos h2]
  have e : tau (sqrN u v) = tau (sP 0 u) := by rw [h2]
  unfold sqrN at e
  rw [tau_mP, tau_mP] at e
  rw [tau_mP]
  have e1 := rm_e
  have e2 := opp_e hu
  generalize tau (rtN u v) = t at *
  generalize tau rmN = r at *
  generalize tau (sP 0 u) = m at *
  generalize tau u = uu at *
  generalize tau v = vv at *
  grind
theorem root_two (r x v u : Fin P) (hv : v ≠ 0) (h1 : r * r * v = u) (h2 : x * x * v = u) : r = x ∨ r + x = 0 := by
 have e : (r - x) * (r + x) * v = 0 := by grind
 by_cases h : r - x = 0
 · left; grind
 ·
  right
  by_cases h3 : r + x = 0
  · exact h3
  · exact absurd e (ne_mul (ne_mul h h3) hv)
theorem xs_of {x y : Nat} (hx : x < P) (h : mP (mP x x) (vN y) = uN y) : rootB (uN y) (vN y) = true ∧ xsN y (decide (x % 2 = 1)) = x := by
 have hu : uN y < P := sP_lt _ _
 have hv : vN y < P := aP_lt _ _
 have h0 := vN_ne y
 have hb := root_there hu hv h0 hx h
 refine ⟨hb, ?_⟩
 have hr := root_sq' hu hb
 have hl := rootV_lt (uN y) (vN y)
 have hx2 : tau x * tau x * tau (vN y) = tau (uN y) := by rw [← h, tau_mP, tau_mP]
 have hv0 : tau (vN y) ≠ 0 := by
  intro e
  have := (tau_zero_iff hv).1 e
  rw [this] at h0
  exact h0 rfl
 unfold xsN
 generalize rootV (uN y) (vN y) = r at *
 rcases root_two _ _ _ _ hv0 hr hx2 with e | e
 ·
  have e2 : r = x := tau_inj hl hx e
  subst e2
  rw [if_neg (by simp)]
 ·
  have e3 : r = sP 0 x := by
   apply tau_inj hl (sP_lt _ _)
   have e4 := opp_e hx
   generalize tau (sP 0 x) = m at *
   generalize tau r = rr at *
   generalize tau x = xx at *
   grind
  by_cases hz : x = 0
  ·
   subst hz
   rw [opp_zero] at e3
   subst e3
   decide
  ·
   have hp := opp_odd hx hz
   have hne : (decide (r % 2 = 1) != decide (x % 2 = 1)) = true := by
    rw [e3]
    by_cases h1 : x % 2 = 1
    · rw [decide_eq_true h1, decide_eq_false (by rw [hp]; omega)]; rfl
    · rw [decide_eq_false h1, decide_eq_true (by rw [hp]; omega)]; rfl
   rw [if_pos hne, e3]
   apply tau_inj (sP_lt _ _) hx
   have e5 := opp_e (sP_lt 0 x)
   have e6 := opp_e hx
   generalize tau (sP 0 (sP 0 x)) = m at *
   generalize tau (sP 0 x) = n at *
   generalize tau x = xx at *
   grind
end Go.Proofs.YtccgfabojbjmjaaGreatDoor
namespace Go.Proofs.YtccgfabojbjmjaaGreatDoor
def cdG (a : G) : Nat := codeN a.y.val (decide (a.x.val % 2 = 1))
theorem codeN_y {y : Nat} (hy : y < P) (odd : Bool) : dcY (codeN y odd) = y := by
 unfold dcY codeN; rw [P_val] at hy; cases odd <;> simp <;> omega
theorem codeN_o {y : Nat} (hy : y < P) (odd : Bool) : dcO (codeN y odd) = odd := by
 unfold dcO codeN; rw [P_val] at hy; cases odd <;> simp <;> omega
theorem on_of' (d x y : Fin P) (h : y * y = 1 + x * x + d * (x * x) * (y * y)) : x * x * (y * y * d + 1) = y * y - 1 := by grind
theorem G_root (a : G) : mP (mP a.x.val a.x.val) (vN a.y.val) = uN a.y.val := by
 have hu : uN a.y.val < P := sP_lt _ _
 apply tau_inj (mP_lt _ _) hu
 have h := on_of' dK a.x a.y a.on
 rw [tau_mP, tau_mP, tau_val]
 have e1 : tau (vN a.y.val) = a.y * a.y * dK + 1 := by
  unfold vN dK; rw [tau_aP, tau_mP, tau_mP, tau_one, tau_val]
 have e2 : tau (uN a.y.val) = a.y * a.y - 1 := by
  unfold uN; rw [tau_sP _ _ one_lt, tau_mP, tau_one, tau_val]
 rw [e1, e2]; exact h
theorem dec_code (a : G) : dcB (cdG a) = true ∧ dcP (cdG a) = ptOf a.x.val a.y.val := by
 obtain ⟨hb, hx⟩ := xs_of a.x.isLt (G_root a)
 have hy := a.y.isLt
 have o1 : ofbB a.y.val = true := by unfold ofbB; exact decide_eq_true hy
 have o2 : ofbV a.y.val = a.y.val := by unfold ofbV; rw [if_pos hy]
 have h1 : dcB (cdG a) = true := by
  unfold dcB cdG
  rw [codeN_y hy, codeN_o hy, o1, o2, Bool.true_and]
  unfold xofB
  rw [if_pos hb, hx]
  simp
 refine ⟨h1, ?_⟩
 unfold dcP
 rw [if_pos h1]
 unfold cdG
 rw [codeN_y hy, codeN_o hy, o2]
 unfold xofV
 rw [if_pos hb, hx]
end Go.Proofs.YtccgfabojbjmjaaGreatDoor
namespace Go.Proofs.YtccgfabojbjmjaaGreatDoor
end Go.Proofs.YtccgfabojbjmjaaGreatDoor
namespace Go.Proofs.YtccgfabojbjmjaaGreatDoor
open Go.RowKit
theorem cdG_injS {a b : G} (h : cdG a = cdG b) : a = b := by
 have e1 := (dec_code a).2
 have e2 := (dec_code b).2
 rw [h] at e1
 have e3 : ptOf a.x.val a.y.val = ptOf b.x.val b.y.val := e1.symm.trans e2
 exact G.ext' (Fin.ext (congrArg Pt.x e3)) (Fin.ext (congrArg Pt.y e3))
theorem bG_ex : ∃ b : G, RP bpP b := by
 obtain ⟨x, y, hx, hy, ho, e⟩ := dcP_on dcB_B
 exact ⟨⟨tau x, tau y, ho⟩, by rw [← bpP_eq, e]; exact RP_of hx hy ho⟩
noncomputable def bG : G := Classical.choose bG_ex
theorem RP_bG : RP bpP bG := Classical.choose_spec bG_ex
theorem gAdd_cancel {a b c : G} (h : gAdd a b = gAdd a c) : b = c := by
 have e : gAdd (gNeg a) (gAdd a b) = gAdd (gNeg a) (gAdd a c) := by rw [h]
 rw [← gAdd_assoc, ← gAdd_assoc, gAdd_comm (gNeg a) a, gAdd_neg, gZero_add, gZero_add] at e
 exact e
theorem gNeg_unique {a b : G} (h : gAdd a b = g0) : b = gNeg a := gAdd_cancel (h.trans (gAdd_neg a).symm)
theorem gNeg_add (a b : G) : gNeg (gAdd a b) = gAdd (gNeg a) (gNeg b) := by
 refine (gNeg_unique ?_).symm
 rw [gAdd_swap, gAdd_neg, gAdd_neg, gAdd_zero]
theorem gNeg_zero : gNeg g0 = g0 := (gNeg_unique (gAdd_zero g0)).symm
theorem gMul_neg (k : Nat) (a : G) : gMul k (gNeg a) = gNeg (gMul k a) := by
 induction k with
 | zero => exact gNeg_zero.symm
 | succ k ih => rw [gMul_succ, gMul_succ, ih, gNeg_add]
noncomputable def vfG (s k : Nat) (a : G) : G := gAdd (gMul s bG) (gNeg (gMul k a))
abbrev oRefKey4 : Oper := ⟨some 10, .move (.tmp 14), 145, "point.go:67", #[zeD 3], none⟩
abbrev oRefKey5 : Oper := ⟨some 15, .extract (.tmp 10) 0, 98, "point.go:67", #[zeD 4], none⟩
abbrev oRefKey6 : Oper := ⟨some 16, .extract (.tmp 10) 1, 4, "point.go:67", #[zeD 4, ⟨8, .gcOnly .lateStores⟩], none⟩
abbrev oRefKey7 : Oper := ⟨some 4, .alloc 98, 0, "point.go:67", #[], none⟩
abbrev oRefKey8 : Oper := ⟨none, .store 98 (.tmp 4) (.tmp 15), 0, "point.go:67", #[zeD 7, zeD 5, zeC 3, zeP 0, zeP 1, zeP 2, zeP 3, zeP 4, zeP 5, ⟨6, .textOnly .lateStores⟩, zeP 7], none⟩
abbrev oRefKey9 : Oper := ⟨some 5, .assign (.tmp 16), 4, "point.go:67", #[zeD 6, zeC 8, zeP 0, zeP 1, zeP 2, zeP 3, zeP 4, zeP 5, zeP 6, zeP 7, zeP 8], none⟩
theorem hrunTextD {a : Act} {o : Oper} (x y : Operand) (ho : o.op = .call { callee := .value (.func 69), args := #[x, y], argTypes := #[95, 4] }) (v1 v2 : Value) (hx : a.eval x = v1) (hy : a.eval y = v2) (w : World) :
  (execOp a.eval o).run Tryz.prog w = .ok (.enter 69 #[v1, v2]) w := by
 unfold execOp
 simp only [ho]
 subst hx hy
 go_simp
theorem hrunPof {a : Act} {o : Oper} (x y : Operand) (ho : o.op = .call { callee := .value (.func 68), args := #[x, y], argTypes := #[95, 9] }) (v1 v2 : Value) (hx : a.eval x = v1) (hy : a.eval y = v2) (w : World) :
  (execOp a.eval o).run Tryz.prog w = .ok (.enter 68 #[v1, v2]) w := by
 unfold execOp
 simp only [ho]
 subst hx hy
 go_simp
theorem hrunBaseD {a : Act} {o : Oper} (x : Operand) (ho : o.op = .call { callee := .value (.func 35), args := #[x], argTypes := #[95] }) (v1 : Value) (hx : a.eval x = v1) (w : World) :
  (execOp a.eval o).run Tryz.prog w = .ok (.enter 35 #[v1]) w := by
 unfold execOp
 simp only [ho]
 subst hx
 go_simp
def bqT : ByteArray := strOf (leB (codeN (mP 4 (invD 5)) false) 32)
theorem textB (y : Nat) (hy : y < P) (T : ByteArray) (hT : T = strOf (leB (codeN y false) 32)) (w : World) :
  Calls Tryz.prog 69 #[.agg (fA y), .bool false] w fun e w' => e = .returned (.string T) ∧ Below w.heap.size w w' := by rw [hT]; exact textA y false hy w
theorem pofT (d : Nat) (hd : d < P) (T : ByteArray) (q : Q3) (b : Bool) (hq : q = pofQ d T) (hb : b = pofB d T) (w : World) :
  Calls Tryz.prog 68 #[.agg (fA d), .string T] w fun e w' => e = .returned (.tuple #[.agg (qA q), .bool b]) ∧ Below w.heap.size w w' := by rw [hq, hb]; exact pointOfA d T hd w
theorem k4 : 4 < P := by decide
theorem k5 : 5 < P := by decide
section
attribute [local irreducible] fA fL qA qL sA sLs crvD pofB pofQ codeD tmQ
set_option maxRecDepth 100000 in
set_option maxHeartbeats 4000000 in
theorem refBase (d : Nat) (hd : d = crvD) (bqD : Q3) (hq : bqD = pofQ crvD bqT) (w : World) :
  Calls Tryz.prog 35 #[.agg (fA d)] w fun e w' => e = .returned (.agg (qA bqD)) ∧ Below w.heap.size w w' := by
 have hz := zeroFA
 have hzq := zeroQ
 have Ed := hide hd
 have Hd : Hid (d < P) := by rw [Ed.out]; exact crvD_lt
 have EQ0 := hide hq
 clear hd hq
 go_enter Tryz.func35, Tryz.ntmps35
 go_upto_region 1 with fail
 generalize hW0 : World.alloc _ _ = W0
 have RD : Hid (W0.heap[w.heap.size]? = some (.cells (fA d) 95 (0, 0))) := by rw [← hW0]; exact heap_alloc2_old _ _ _
 have RZ : Hid (W0.heap[w.heap.size + 1]? = some (.cells (qA q0) 98 (0, 0))) := by rw [← hW0]; exact heap_alloc2_new _ _ _
 have BL : Hid (Below w.heap.size w W0) := by rw [← hW0]; show Below _ _ _; go_grown
 clear hW0
 go_wp2_with fail
 refine (smallA 4 (by decide) _).mono ?_
 rintro e W1 ⟨rfl, hB⟩
 have RD := hide (row_keep' RD.out hB)
 have RZ := hide (row_keep' RZ.out hB)
 have BL := kTr BL hB
 clear hB
 obtain ⟨x4, E4⟩ : ∃ x, Hid (x = 4) := ⟨_, hide rfl⟩
 have H4 : Hid (x4 < P) := by rw [E4.out]; exact k4
 rw [← E4.out]
 go_wp2_with fail
 refine (smallA 5 (by decide) _).mono ?_
 rintro e W2 ⟨rfl, hB⟩
 have RD := hide (row_keep' RD.out hB)
 have RZ := hide (row_keep' RZ.out hB)
 have BL := kTr BL hB
 clear hB
 go_wp2_with fail
 refine (inverseA 5 k5 _).mono ?_
 rintro e W3 ⟨rfl, hB⟩
 have RD := hide (row_keep' RD.out hB)
 have RZ := hide (row_keep' RZ.out hB)
 have BL := kTr BL hB
 clear hB
 obtain ⟨i5, E5⟩ : ∃ x, Hid (x = invD 5) := ⟨_, hide rfl⟩
 have H5 : Hid (i5 < P) := by rw [E5.out]; exact invD_lt _
 rw [← E5.out]
 go_wp2_with fail
 refine (mulA x4 i5 H4.out H5.out _).mono ?_
 rintro e W4 ⟨rfl, hB⟩
 have RD := hide (row_keep' RD.out hB)
 have RZ := hide (row_keep' RZ.out hB)
 have BL := kTr BL hB
 clear hB
 obtain ⟨y, Ey⟩ : ∃ x, Hid (x = mP x4 i5) := ⟨_, hide rfl⟩
 have Hy : Hid (y < P) := by rw [Ey.out]; exact mP_lt _ _
 rw [← Ey.out]
 go_upto_region 2 with (first | (refine wpList_store_row (by rfl) 95 (.tmp 3) (.tmp 9) (by rfl) W4.heap.size (fA y) (by rfl) (by rfl) 95 _ (heap_alloc_new _ _) (fA_size _) (fA_old _ _) (fA_all _) ?_))
 try rw [put_none']
 obtain ⟨g3, hg3⟩ : ∃ q, q = W4.heap.size := ⟨_, rfl⟩
 generalize hW5 : World.setRow _ _ _ = W5
 have K5 : Hid (Below W4.heap.size W4 W5) := by rw [← hW5]; exact below_setRow ((Below.refl _ _).alloc (Nat.le_refl _) _) (Nat.le_refl _) _
 have RY : Hid (W5.heap[g3]? = some (.cells (fA y) 95 (0, 0))) := by rw [← hW5, hg3]; exact setRow_heap _ _ _ _ _ _ (heap_alloc_new _ _)
 have RD := hide (row_keep' RD.out K5.out)
 have RZ := hide (row_keep' RZ.out K5.out)
 have BL : Hid (Below w.heap.size w W5) := BL.out.trans (K5.out.mono BL.out.size)
 rw [← hg3]
 clear hW5 hg3 K5
 obtain ⟨T, ET⟩ : ∃ T, Hid (T = strOf (leB (codeN y false) 32)) := ⟨_, hide rfl⟩
 have ETb : Hid (T = bqT) := by show _ = _; rw [ET.out, Ey.out, E4.out, E5.out]; rfl
 have EQ : Hid (bqD = pofQ d T) := by show _ = _; rw [EQ0.out, Ed.out, ETb.out]
 obtain ⟨b0, EB⟩ : ∃ c, Hid (c = pofB d T) := ⟨_, hide rfl⟩
 have lD := lt_row RD.out
 have lY := lt_row RY.out
 go_cut [4] from 10 to 16 (fun s' wx => ∃ g, s' = .pointer (some ⟨g, 0, none⟩) ∧ Hid (wx.heap[g]? = some (.cells (qA bqD) 98 (0, 0))) ∧ Hid (Below W5.heap.size W5 wx))
 case first =>
  refine wp_region_held_drew (S := fun w' => w'.rangeAt w.heap.size 0 (fL d) ∧ w'.rangeAt g3 0 (fL y)) (by kernel_rfl) ⟨rangeF RD.out, rangeF RY.out⟩ (fun hHeld => ?_)
  have KV1 : Hid (Below W5.heap.size W5 W5.drew) := (Below.refl _ _).drew
  obtain ⟨V1, hV1⟩ : ∃ V, V = W5.drew := ⟨_, rfl⟩
  rw [← hV1] at hHeld KV1 ⊢
  clear hV1
  refine wpAnyH_take (i := 0) (oi := ⟨some 11, .load 95 (.tmp 1), 95, "point.go:67", #[], none⟩) (v := .agg (fA d)) rfl (by kernel_rfl) (by kernel_rfl) (by kernel_rfl) (fun _ _ _ h => h) (yldF (by rfl) _ rfl w.heap.size 0 d rfl (fun w h => h.1)) hHeld ?_
  simp only [zaP, zsT, zsZ, zsS]
  refine wpAnyH_take (i := 1) (oi := ⟨some 12, .load 95 (.tmp 3), 95, "point.go:67", #[], none⟩) (v := .agg (fA y)) rfl (by kernel_rfl) (by kernel_rfl) (by kernel_rfl) (fun _ _ _ h => h) (yldF (by rfl) _ rfl g3 0 y rfl (fun w h => h.2)) hHeld ?_
  simp only [zaP, zsT, zsZ, zsS]
  refine wpAnyH_ready (rs := [2, 7]) (by kernel_rfl) (by simp) ?_
  refine AllReadyH.cons (o := ⟨some 13, .call ⟨.value (.func 69), #[.tmp 12, .const (.bool false)], #[95, 4]⟩, 9, "point.go:67", #[zeD 1], none⟩) rfl (fun K hK => ?_) ?_
  ·
   refine step_callTo (by rfl) _ _ (hrunTextD _ _ rfl (.agg (fA y)) (.bool false) rfl rfl V1) _ _ (textB y Hy.out T ET.out V1) (fun V2 HBx => ?_)
   have KV2 := kTr KV1 HBx
   clear HBx
   refine hK.out _ _ ?_ (fun hHeld => ?_)
   · exact ⟨range_below (rangeF RD.out) KV2.out lD, range_below (rangeF RY.out) KV2.out lY⟩
   clear hK K
   try simp only [zaP, zsT, zsZ, zsS]
   refine wpAnyH_ready (rs := [3, 7]) (by kernel_rfl) (by simp) ?_
   refine AllReadyH.cons (o := ⟨some 14, .call ⟨.value (.func 68), #[.tmp 11, .tmp 13], #[95, 9]⟩, 145, "point.go:67", #[zeD 0, zeD 2, zeC 2], none⟩) rfl (fun K hK => ?_) ?_
   ·
    refine step_callTo (by rfl) _ _ (hrunPof _ _ rfl (.agg (fA d)) (.string T) rfl rfl V2) _ _ (pofT d Hd.out T bqD b0 EQ.out EB.out V2) (fun V3 HBx => ?_)
    have KV3 := kTr KV2 HBx
    clear HBx
    refine hK.out _ _ ?_ (fun hHeld => ?_)
    · exact ⟨range_below (rangeF RD.out) KV3.out lD, range_below (rangeF RY.out) KV3.out lY⟩
    clear hK K
    try simp only [zaP, zsT, zsZ, zsS]
    refine wpAnyH_take (i := 4) (oi := oRefKey4) (v := .tuple #[.agg (qA bqD), .bool b0]) rfl (by kernel_rfl) (by kernel_rfl) (by kernel_rfl) (fun _ _ _ h => h) (Or.inl ⟨by rfl, fun w _ => by go_simp⟩) hHeld ?_
    simp only [zaP, zsT, zsZ, zsS]
    refine wpAnyH_take (i := 5) (oi := oRefKey5) (v := .agg (qA bqD)) rfl (by kernel_rfl) (by kernel_rfl) (by kernel_rfl) (fun _ _ _ h => h) (Or.inl ⟨by rfl, fun w _ => by go_simp⟩) hHeld ?_
    simp only [zaP, zsT, zsZ, zsS]
    refine wpAnyH_take (i := 6) (oi := oRefKey6) (v := .bool b0) rfl (by kernel_rfl) (by kernel_rfl) (by kernel_rfl) (fun _ _ _ h => h) (Or.inl ⟨by rfl, fun w _ => by go_simp⟩) hHeld ?_
    simp only [zaP, zsT, zsZ, zsS]
    refine wpAnyH_ready (rs := [7]) (by kernel_rfl) (by simp) ?_
    refine AllReadyH.cons (o := oRefKey7) rfl (fun K hK => ?_) AllReadyH.nil
    refine step_runTo (w' := V3.alloc (.cells (qA q0) 98)) (by rfl) (.pointer (some ⟨V3.heap.size, 0, none⟩)) (hrunAllocQ rfl V3) ?_
    obtain ⟨gg4, hgg4⟩ : ∃ g, g = V3.heap.size := ⟨_, rfl⟩
    have ZN : Hid ((V3.alloc (.cells (qA q0) 98)).heap[gg4]? = some (.cells (qA q0) 98 (0, 0))) := by rw [hgg4]; exact heap_alloc_new _ _
    have KV4 : Hid (Below W5.heap.size W5 (V3.alloc (.cells (qA q0) 98))) := KV3.out.alloc KV3.out.size _
    have GG : Hid (W5.heap.size ≤ gg4) := by rw [hgg4]; exact KV3.out.size
    rw [← hgg4]
    obtain ⟨V4, hV4⟩ : ∃ V, V = V3.alloc (.cells (qA q0) 98) := ⟨_, rfl⟩
    rw [← hV4] at ZN KV4 ⊢
    clear hV4 hgg4
    refine hK.out _ _ ?_ (fun hHeld => ?_)
    · exact ⟨range_below (rangeF RD.out) KV4.out lD, range_below (rangeF RY.out) KV4.out lY⟩
    clear hK K
    try simp only [zaP, zsT, zsZ, zsS]
    refine wpAnyH_ready (rs := [8]) (by kernel_rfl) (by simp) ?_
    refine AllReadyH.cons (o := oRefKey8) rfl (fun K hK => ?_) AllReadyH.nil
    refine step_store_row _ (by rfl) 98 (.tmp 4) (.tmp 15) (by rfl) (gg4) (qA bqD) (by rfl) (by rfl) 98 _ ZN.out (qA_size _) (qA_old _ _) (qA_all _) ?_
    rw [put_none']
    refine hK.out _ _ ?_ (fun hHeld => ?_)
    · exact ⟨range_set (range_below (rangeF RD.out) KV4.out lD) (Nat.ne_of_lt (Nat.lt_of_lt_of_le lD GG.out)), range_set (range_below (rangeF RY.out) KV4.out lY) (Nat.ne_of_lt (Nat.lt_of_lt_of_le lY GG.out))⟩
    clear hK K
    try simp only [zaP, zsT, zsZ, zsS]
    refine wpAnyH_take (i := 9) (oi := oRefKey9) (v := .bool b0) rfl (by kernel_rfl) (by kernel_rfl) (by kernel_rfl) (fun _ _ _ h => h) (Or.inl ⟨by rfl, fun w _ => by go_simp⟩) hHeld ?_
    simp only [zaP, zsT, zsZ, zsS]
    refine wpAnyH_done (by kernel_rfl) ?_ _
    go_wp2_with fail
    go_meet
    case rel => exact ⟨gg4, rfl, hide (setRow_heap _ _ _ _ _ _ ZN.out), hide (below_setRow KV4.out GG.out _)⟩
   refine AllReadyH.cons (o := oRefKey7) rfl (fun K hK => ?_) ?_
   ·
    refine step_runTo (w' := V2.alloc (.cells (qA q0) 98)) (by rfl) (.pointer (some ⟨V2.heap.size, 0, none⟩)) (hrunAllocQ rfl V2) ?_
    obtain ⟨gg6, hgg6⟩ : ∃ g, g = V2.heap.size := ⟨_, rfl⟩
    have ZN : Hid ((V2.alloc (.cells (qA q0) 98)).heap[gg6]? = some (.cells (qA q0) 98 (0, 0))) := by rw [hgg6]; exact heap_alloc_new _ _
    have KV6 : Hid (Below W5.heap.size W5 (V2.alloc (.cells (qA q0) 98))) := KV2.out.alloc KV2.out.size _
    have GG : Hid (W5.heap.size ≤ gg6) := by rw [hgg6]; exact KV2.out.size
    rw [← hgg6]
    obtain ⟨V6, hV6⟩ : ∃ V, V = V2.alloc (.cells (qA q0) 98) := ⟨_, rfl⟩
    rw [← hV6] at ZN KV6 ⊢
    clear hV6 hgg6
    refine hK.out _ _ ?_ (fun hHeld => ?_)
    · exact ⟨range_below (rangeF RD.out) KV6.out lD, range_below (rangeF RY.out) KV6.out lY⟩
    clear hK K
    try simp only [zaP, zsT, zsZ, zsS]
    refine wpAnyH_ready (rs := [3]) (by kernel_rfl) (by simp) ?_
    refine AllReadyH.cons (o := ⟨some 14, .call ⟨.value (.func 68), #[.tmp 11, .tmp 13], #[95, 9]⟩, 145, "point.go:67", #[zeD 0, zeD 2, zeC 2], none⟩) rfl (fun K hK => ?_) AllReadyH.nil
    refine step_callTo (by rfl) _ _ (hrunPof _ _ rfl (.agg (fA d)) (.string T) rfl rfl V6) _ _ (pofT d Hd.out T bqD b0 EQ.out EB.out V6) (fun V7 HBx => ?_)
    have KV7 := kTr KV6 HBx
    have ZN : Hid (V7.heap[gg6]? = _) := row_keep' ZN.out HBx
    clear HBx
    refine hK.out _ _ ?_ (fun hHeld => ?_)
    · exact ⟨range_below (rangeF RD.out) KV7.out lD, range_below (rangeF RY.out) KV7.out lY⟩
    clear hK K
    try simp only [zaP, zsT, zsZ, zsS]
    refine wpAnyH_take (i := 4) (oi := oRefKey4) (v := .tuple #[.agg (qA bqD), .bool b0]) rfl (by kernel_rfl) (by kernel_rfl) (by kernel_rfl) (fun _ _ _ h => h) (Or.inl ⟨by rfl, fun w _ => by go_simp⟩) hHeld ?_
    simp only [zaP, zsT, zsZ, zsS]
    refine wpAnyH_take (i := 5) (oi := oRefKey5) (v := .agg (qA bqD)) rfl (by kernel_rfl) (by kernel_rfl) (by kernel_rfl) (fun _ _ _ h => h) (Or.inl ⟨by rfl, fun w _ => by go_simp⟩) hHeld ?_
    simp only [zaP, zsT, zsZ, zsS]
    refine wpAnyH_take (i := 6) (oi := oRefKey6) (v := .bool b0) rfl (by kernel_rfl) (by kernel_rfl) (by kernel_rfl) (fun _ _ _ h => h) (Or.inl ⟨by rfl, fun w _ => by go_simp⟩) hHeld ?_
    simp only [zaP, zsT, zsZ, zsS]
    refine wpAnyH_ready (rs := [8]) (by kernel_rfl) (by simp) ?_
    refine AllReadyH.cons (o := oRefKey8) rfl (fun K hK => ?_) AllReadyH.nil
    refine step_store_row _ (by rfl) 98 (.tmp 4) (.tmp 15) (by rfl) (gg6) (qA bqD) (by rfl) (by rfl) 98 _ ZN.out (qA_size _) (qA_old _ _) (qA_all _) ?_
    rw [put_none']
    refine hK.out _ _ ?_ (fun hHeld => ?_)
    · exact ⟨range_set (range_below (rangeF RD.out) KV7.out lD) (Nat.ne_of_lt (Nat.lt_of_lt_of_le lD GG.out)), range_set (range_below (rangeF RY.out) KV7.out lY) (Nat.ne_of_lt (Nat.lt_of_lt_of_le lY GG.out))⟩
    clear hK K
    try simp only [zaP, zsT, zsZ, zsS]
    refine wpAnyH_take (i := 9) (oi := oRefKey9) (v := .bool b0) rfl (by kernel_rfl) (by kernel_rfl) (by kernel_rfl) (fun _ _ _ h => h) (Or.inl ⟨by rfl, fun w _ => by go_simp⟩) hHeld ?_
    simp only [zaP, zsT, zsZ, zsS]
    refine wpAnyH_done (by kernel_rfl) ?_ _
    go_wp2_with fail
    go_meet
    case rel => exact ⟨gg6, rfl, hide (setRow_heap _ _ _ _ _ _ ZN.out), hide (below_setRow KV7.out GG.out _)⟩
   exact AllReadyH.nil
  refine AllReadyH.cons (o := oRefKey7) rfl (fun K hK => ?_) ?_
  ·
   refine step_runTo (w' := V1.alloc (.cells (qA q0) 98)) (by rfl) (.pointer (some ⟨V1.heap.size, 0, none⟩)) (hrunAllocQ rfl V1) ?_
   obtain ⟨gg9, hgg9⟩ : ∃ g, g = V1.heap.size := ⟨_, rfl⟩
   have ZN : Hid ((V1.alloc (.cells (qA q0) 98)).heap[gg9]? = some (.cells (qA q0) 98 (0, 0))) := by rw [hgg9]; exact heap_alloc_new _ _
   have KV9 : Hid (Below W5.heap.size W5 (V1.alloc (.cells (qA q0) 98))) := KV1.out.alloc KV1.out.size _
   have GG : Hid (W5.heap.size ≤ gg9) := by rw [hgg9]; exact KV1.out.size
   rw [← hgg9]
   obtain ⟨V9, hV9⟩ : ∃ V, V = V1.alloc (.cells (qA q0) 98) := ⟨_, rfl⟩
   rw [← hV9] at ZN KV9 ⊢
   clear hV9 hgg9
   refine hK.out _ _ ?_ (fun hHeld => ?_)
   · exact ⟨range_below (rangeF RD.out) KV9.out lD, range_below (rangeF RY.out) KV9.out lY⟩
   clear hK K
   try simp only [zaP, zsT, zsZ, zsS]
   refine wpAnyH_ready (rs := [2]) (by kernel_rfl) (by simp) ?_
   refine AllReadyH.cons (o := ⟨some 13, .call ⟨.value (.func 69), #[.tmp 12, .const (.bool false)], #[95, 4]⟩, 9, "point.go:67", #[zeD 1], none⟩) rfl (fun K hK => ?_) AllReadyH.nil
   refine step_callTo (by rfl) _ _ (hrunTextD _ _ rfl (.agg (fA y)) (.bool false) rfl rfl V9) _ _ (textB y Hy.out T ET.out V9) (fun V10 HBx => ?_)
   have KV10 := kTr KV9 HBx
   have ZN : Hid (V10.heap[gg9]? = _) := row_keep' ZN.out HBx
   clear HBx
   refine hK.out _ _ ?_ (fun hHeld => ?_)
   · exact ⟨range_below (rangeF RD.out) KV10.out lD, range_below (rangeF RY.out) KV10.out lY⟩
   clear hK K
   try simp only [zaP, zsT, zsZ, zsS]
   refine wpAnyH_ready (rs := [3]) (by kernel_rfl) (by simp) ?_
   refine AllReadyH.cons (o := ⟨some 14, .call ⟨.value (.func 68), #[.tmp 11, .tmp 13], #[95, 9]⟩, 145, "point.go:67", #[zeD 0, zeD 2, zeC 2], none⟩) rfl (fun K hK => ?_) AllReadyH.nil
   refine step_callTo (by rfl) _ _ (hrunPof _ _ rfl (.agg (fA d)) (.string T) rfl rfl V10) _ _ (pofT d Hd.out T bqD b0 EQ.out EB.out V10) (fun V11 HBx => ?_)
   have KV11 := kTr KV10 HBx
   have ZN : Hid (V11.heap[gg9]? = _) := row_keep' ZN.out HBx
   clear HBx
   refine hK.out _ _ ?_ (fun hHeld => ?_)
   · exact ⟨range_below (rangeF RD.out) KV11.out lD, range_below (rangeF RY.out) KV11.out lY⟩
   clear hK K
   try simp only [zaP, zsT, zsZ, zsS]
   refine wpAnyH_take (i := 4) (oi := oRefKey4) (v := .tuple #[.agg (qA bqD), .bool b0]) rfl (by kernel_rfl) (by kernel_rfl) (by kernel_rfl) (fun _ _ _ h => h) (Or.inl ⟨by rfl, fun w _ => by go_simp⟩) hHeld ?_
   simp only [zaP, zsT, zsZ, zsS]
   refine wpAnyH_take (i := 5) (oi := oRefKey5) (v := .agg (qA bqD)) rfl (by kernel_rfl) (by kernel_rfl) (by kernel_rfl) (fun _ _ _ h => h) (Or.inl ⟨by rfl, fun w _ => by go_simp⟩) hHeld ?_
   simp only [zaP, zsT, zsZ, zsS]
   refine wpAnyH_take (i := 6) (oi := oRefKey6) (v := .bool b0) rfl (by kernel_rfl) (by kernel_rfl) (by kernel_rfl) (fun _ _ _ h => h) (Or.inl ⟨by rfl, fun w _ => by go_simp⟩) hHeld ?_
   simp only [zaP, zsT, zsZ, zsS]
   refine wpAnyH_ready (rs := [8]) (by kernel_rfl) (by simp) ?_
   refine AllReadyH.cons (o := oRefKey8) rfl (fun K hK => ?_) AllReadyH.nil
   refine step_store_row _ (by rfl) 98 (.tmp 4) (.tmp 15) (by rfl) (gg9) (qA bqD) (by rfl) (by rfl) 98 _ ZN.out (qA_size _) (qA_old _ _) (qA_all _) ?_
   rw [put_none']
   refine hK.out _ _ ?_ (fun hHeld => ?_)
   · exact ⟨range_set (range_below (rangeF RD.out) KV11.out lD) (Nat.ne_of_lt (Nat.lt_of_lt_of_le lD GG.out)), range_set (range_below (rangeF RY.out) KV11.out lY) (Nat.ne_of_lt (Nat.lt_of_lt_of_le lY GG.out))⟩
   clear hK K
   try simp only [zaP, zsT, zsZ, zsS]
   refine wpAnyH_take (i := 9) (oi := oRefKey9) (v := .bool b0) rfl (by kernel_rfl) (by kernel_rfl) (by kernel_rfl) (fun _ _ _ h => h) (Or.inl ⟨by rfl, fun w _ => by go_simp⟩) hHeld ?_
   simp only [zaP, zsT, zsZ, zsS]
   refine wpAnyH_done (by kernel_rfl) ?_ _
   go_wp2_with fail
   go_meet
   case rel => exact ⟨gg9, rfl, hide (setRow_heap _ _ _ _ _ _ ZN.out), hide (below_setRow KV11.out GG.out _)⟩
  exact AllReadyH.nil
 case rest =>
  obtain ⟨g4, rfl, RN, X9⟩ := hcut
  have RZ := hide (row_keep' RZ.out X9.out)
  have BL : Hid (Below w.heap.size w wc) := BL.out.trans (X9.out.mono BL.out.size)
  go_wp2_with (first
   | (refine wpList_load_row (by rfl) 98 (.tmp 4) (by rfl) g4 (by rfl) 98 (qA bqD) (0, 0) _ RN.out Tryz.underlying98 rfl (qA_size _) ?_)
   | (refine wpList_store_row (by rfl) 98 (.tmp 2) (.tmp 17) (by rfl) (w.heap.size + 1) (qA bqD) (by rfl) (by rfl) 98 _ RZ.out (qA_size _) (qA_old _ _) (qA_all _) ?_))
  refine bodyPost_ret (v := .agg (qA bqD)) (results_cell_row Tryz.results35 _ _ (w.heap.size + 1) 98 _ (0, 0) _ (by rfl) (setRow_heap _ _ _ _ _ _ RZ.out) Tryz.underlying98 rfl (qA_size _)) rfl ⟨rfl, below_setRow BL.out (by omega) _⟩
end
theorem bytesOf_add (a b : ByteArray) : bytesOf (a ++ b) = bytesOf a ++ bytesOf b := by
 unfold bytesOf; rw [ByteArray.data_append, Array.toList_append]
theorem size_add (a b : ByteArray) : (a ++ b).size = a.size + b.size := by
 rw [← bytesOf_length, bytesOf_add, List.length_append]; rfl
theorem valLE_lt32 (l : List UInt8) (h : l.length = 32) : valLE l < 115792089237316195423570985008687907853269984665640564039457584007913129639936 := by
 have := valLE_lt l
 rw [h] at this
 exact Nat.lt_of_lt_of_le this (by decide)
end Go.Proofs.YtccgfabojbjmjaaGreatDoor
namespace Go.Proofs.YtccgfabojbjmjaaGreatDoor
theorem RQ_one : RQ one3 g0 := by
 refine ⟨⟨P_pos, one_lt, one_lt⟩, ?_, ?_, ?_⟩
 ·
  show tau 1 ≠ 0
  rw [tau_one]; exact one_ne
 ·
  show tau 0 = 0 * tau 1
  rw [tau_zero, Fin.zero_mul]
 ·
  show tau 1 = 1 * tau 1
  rw [Fin.one_mul]
theorem wI_val (l : List UInt8) (j : Nat) : wI l j = ((valLE l / 65536 ^ j % 65536 : Nat) : Int) := by
 have h0 := valLE_byte l (2 * j)
 have h1 := valLE_byte l (2 * j + 1)
 unfold wI C8
 rw [← h0, ← h1, Nat.pow_succ, show (256 : Nat) ^ (2 * j) = 65536 ^ j by rw [Nat.pow_mul], ← Nat.div_div_eq_div_mul]
 generalize valLE l / 65536 ^ j = x
 omega
theorem bit_of (x q r : Nat) (hr : r < 16) : x / 65536 ^ q % 65536 / 2 ^ r % 2 = x / 2 ^ (16 * q + r) % 2 := by
 have e : (65536 : Nat) ^ q = 2 ^ (16 * q) := by rw [Nat.pow_mul]
 rw [e, Nat.pow_add, ← Nat.div_div_eq_div_mul]
 generalize x / 2 ^ (16 * q) = y
 have h : r = 0 ∨ r = 1 ∨ r = 2 ∨ r = 3 ∨ r = 4 ∨ r = 5 ∨ r = 6 ∨ r = 7 ∨ r = 8 ∨ r = 9 ∨ r = 10 ∨ r = 11 ∨ r = 12 ∨ r = 13 ∨ r = 14 ∨ r = 15 := by omega
 rcases h with rfl | rfl | rfl | rfl | rfl | rfl | rfl | rfl | rfl | rfl | rfl | rfl | rfl | rfl | rfl | rfl <;> simp only [Nat.reducePow, Nat.pow_zero, Nat.div_one] <;> omega
theorem btI_val (l : List UInt8) (i : Nat) : btI l i = decide (valLE l / 2 ^ i % 2 = 1) := by
 unfold btI
 rw [wI_val]
 have e : ((valLE l / 65536 ^ (i / 16) % 65536 : Nat) : Int) / 2 ^ (i % 16) % 2 = ((valLE l / 65536 ^ (i / 16) % 65536 / 2 ^ (i % 16) % 2 : Nat) : Int) := by
  rw [Int.natCast_emod, Int.natCast_ediv, Int.natCast_pow]; rfl
 rw [e, bit_of _ _ _ (Nat.mod_lt _ (by decide)), show 16 * (i / 16) + i % 16 = i by omega]
 by_cases h : valLE l / 2 ^ i % 2 = 1
 · rw [decide_eq_true h, h]; rfl
 · rw [decide_eq_false h, decide_eq_false (by omega)]
theorem RQ_tmQ {q : Q3} {a : G} (h : RQ q a) (l : List UInt8) (hl : valLE l < 115792089237316195423570985008687907853269984665640564039457584007913129639936) : ∀ k, k ≤ 256 → RQ (tmQ dN l q k) (gMul (valLE l / 2 ^ (256 - k)) a)
 | 0, _ => by
  rw [Nat.sub_zero, Nat.div_eq_of_lt hl]; exact RQ_one
 | k + 1, hk => by
  have ih := RQ_tmQ h l hl k (by omega)
  rw [tmQ, btI_val, plusD_plusQ, plusD_plusQ]
  have e := div_bit (valLE l) (255 - k)
  rw [show 255 - k + 1 = 256 - k by omega] at e
  rw [show 256 - (k + 1) = 255 - k by omega]
  by_cases hb : valLE l / 2 ^ (255 - k) % 2 = 1
  ·
   rw [decide_eq_true hb, if_pos rfl, e, hb, gMul_succ, gMul_dbl]
   exact RQ_plus (RQ_plus ih ih) h
  ·
   have hb0 : valLE l / 2 ^ (255 - k) % 2 = 0 := by omega
   rw [decide_eq_false hb, if_neg (by decide), e, hb0, Nat.add_zero, gMul_dbl]
   exact RQ_plus ih ih
theorem RQ_times {q : Q3} {a : G} (h : RQ q a) (l : List UInt8) (hl : valLE l < 115792089237316195423570985008687907853269984665640564039457584007913129639936) : RQ (tmQ dN l q 256) (gMul (valLE l) a) := by
 have := RQ_tmQ h l hl 256 (Nat.le_refl _)
 rw [Nat.sub_self, Nat.pow_zero, Nat.div_one] at this
 exact this
theorem point_G {s : ByteArray} (h : pofB dN s = true) : ∃ a : G, RP (poP s) a ∧ RQ (pofQ dN s) a := by
 obtain ⟨x, y, hx, hy, e1, e2⟩ := point_same h
 have hb : poB s = true := by rw [poB_same]; exact h
 have hd : dcB (ksN s) = true := by
  unfold poB at hb
  rw [Bool.and_eq_true] at hb
  exact hb.2
 obtain ⟨x', y', hx', hy', ho, e3⟩ := dcP_on hd
 have e4 : poP s = ptOf x' y' := by unfold poP; rw [if_pos hb, e3]
 have e5 : ptOf x y = ptOf x' y' := e1.symm.trans e4
 have ex : x = x' := congrArg Pt.x e5
 have ey : y = y' := congrArg Pt.y e5
 subst ex ey
 exact ⟨_, by rw [e1]; exact RP_of hx hy ho, by rw [e2]; exact RQ_of hx hy ho⟩
theorem poP_dcP {s : ByteArray} (h : poB s = true) : poP s = dcP (ksN s) := by unfold poP; rw [if_pos h]
theorem RP_one {p : Pt} {a b : G} (h : RP p a) (k : RP p b) : a = b := by
 apply cdG_injS
 have e1 := code_RP h
 have e2 := code_RP k
 exact e1.symm.trans e2
theorem bqT_bc : bqT = strOf (leB bcN 32) := by
 unfold bqT
 have e : codeN (mP 4 (invD 5)) false = bcN := by rw [invD_invN]; decide +kernel
 rw [e]
theorem bq_po : poB bqT = true := by rw [bqT_bc]; decide +kernel
theorem bq_pt : poP bqT = bpP := by
 rw [poP_dcP bq_po, ← bpP_eq]
 have e : ksN bqT = bcN := by rw [bqT_bc]; decide +kernel
 rw [e]
theorem RQ_bG : RQ (pofQ crvD bqT) bG := by
 rw [crvD_dN]
 obtain ⟨a, h1, h2⟩ := point_G (s := bqT) (by rw [← poB_same]; exact bq_po)
 rw [bq_pt] at h1
 rw [RP_one RP_bG h1]; exact h2
def keyD : ByteArray := ⟨#[0xd7, 0x5a, 0x98, 0x01, 0x82, 0xb1, 0x0a, 0xb7, 0xd5, 0x4b, 0xfe, 0xd3, 0xc9, 0x64, 0x07, 0x3a, 0x0e, 0xe1, 0x72, 0xf3, 0xda, 0xa6, 0x23, 0x25, 0xaf, 0x02, 0x1a, 0x68, 0xf7, 0x07, 0x51, 0x1a]⟩
end Go.Proofs.YtccgfabojbjmjaaGreatDoor
namespace Go.Proofs.YtccgfabojbjmjaaGreatDoor
def cVmL : List UInt8 := [210, 151, 163, 110, 87, 0, 188, 132, 2, 135, 149, 111, 176, 243, 250, 135, 181, 79, 185, 84, 128, 249, 232, 120, 233, 110, 253, 25, 15, 241, 158, 55, 215, 90, 152, 1, 130, 177, 10, 183, 213, 75, 254, 211, 201, 100, 7, 58, 14, 225, 114, 243, 218, 166, 35, 37, 175, 2, 26, 104, 247, 7, 81, 26, 109]
def cVmH : List UInt8 := [143, 212, 117, 85, 66, 212, 239, 107, 71, 152, 206, 135, 162, 174, 161, 102, 176, 251, 170, 208, 233, 175, 79, 242, 38, 178, 210, 70, 214, 126, 228, 254, 24, 142, 227, 194, 159, 11, 80, 145, 167, 43, 77, 171, 83, 196, 51, 177, 169, 69, 232, 253, 237, 187, 49, 29, 223, 215, 23, 69, 20, 125, 126, 28]
def cVmB0 : List UInt8 := [210, 151, 163, 110, 87, 0, 188, 132, 2, 135, 149, 111, 176, 243, 250, 135, 181, 79, 185, 84, 128, 249, 232, 120, 233, 110, 253, 25, 15, 241, 158, 55, 215, 90, 152, 1, 130, 177, 10, 183, 213, 75, 254, 211, 201, 100, 7, 58, 14, 225, 114, 243, 218, 166, 35, 37, 175, 2, 26, 104, 247, 7, 81, 26, 109, 128, 0, 0, 0, 0, 0, 0, 0, 0, 0, 0, 0, 0, 0, 0, 0, 0, 0, 0, 0, 0, 0, 0, 0, 0, 0, 0, 0, 0, 0, 0, 0, 0, 0, 0, 0, 0, 0, 0, 0, 0, 0, 0, 0, 0, 0, 0, 0, 0, 0, 0, 0, 0, 0, 0, 0, 0, 0, 0, 0, 0, 2, 8]
def cVmS0 : S8 := ⟨10364037651540275051#64, 5159100455098163558#64, 12752974584080191474#64, 2788522320983942398#64, 1769602128634663057#64, 12045807026572637105#64, 12197411343115694365#64, 16129386175914671644#64⟩
theorem cVmK0 : ivH.add (rnds (sch cVmB0 64) ivH 80) = cVmS0 := by kernel_rfl
theorem cVm_hash : hashOf cVmL = cVmH := (hash1 cVmL cVmB0 cVmS0 (by decide +kernel) rfl cVmK0 (by decide)).trans (by kernel_rfl)
def cVnL : List UInt8 := [210, 151, 163, 110, 87, 0, 188, 132, 2, 135, 149, 111, 176, 243, 250, 135, 181, 79, 185, 84, 128, 249, 232, 120, 233, 110, 253, 25, 15, 241, 158, 55, 215, 90, 152, 1, 130, 177, 10, 183, 213, 75, 254, 211, 201, 100, 7, 58, 14, 225, 114, 243, 218, 166, 35, 37, 175, 2, 26, 104, 247, 7, 81, 26, 110]
def cVnH : List UInt8 := [138, 151, 239, 7, 124, 23, 161, 88, 179, 67, 120, 171, 40, 218, 117, 53, 199, 187, 13, 209, 151, 134, 202, 224, 6, 143, 57, 34, 90, 104, 119, 156, 170, 216, 23, 141, 166, 111, 79, 195, 184, 74, 93, 31, 132, 6, 106, 60, 42, 185, 176, 121, 38, 180, 229, 169, 6, 11, 65, 170, 135, 79, 130, 230]
def cVnB0 : List UInt8 := [210, 151, 163, 110, 87, 0, 188, 132, 2, 135, 149, 111, 176, 243, 250, 135, 181, 79, 185, 84, 128, 249, 232, 120, 233, 110, 253, 25, 15, 241, 158, 55, 215, 90, 152, 1, 130, 177, 10, 183, 213, 75, 254, 211, 201, 100, 7, 58, 14, 225, 114, 243, 218, 166, 35, 37, 175, 2, 26, 104, 247, 7, 81, 26, 110, 128, 0, 0, 0, 0, 0, 0, 0, 0, 0, 0, 0, 0, 0, 0, 0, 0, 0, 0, 0, 0, 0, 0, 0, 0, 0, 0, 0, 0, 0, 0, 0, 0, 0, 0, 0, 0, 0, 0, 0, 0, 0, 0, 0, 0, 0, 0, 0, 0, 0, 0, 0, 0, 0, 0, 0, 0, 0, 0, 0, 0, 2, 8]
def cVnS0 : S8 := ⟨9986713514143097176#64, 12917300832748860725#64, 14392112228034071264#64, 472659305605658524#64, 12310615478567391171#64, 13279528841195711036#64, 3078685854671365545#64, 435513989641765606#64⟩
theorem cVnK0 : ivH.add (rnds (sch cVnB0 64) ivH 80) = cVnS0 := by kernel_rfl
theorem cVn_hash : hashOf cVnL = cVnH := (hash1 cVnL cVnB0 cVnS0 (by decide +kernel) rfl cVnK0 (by decide)).trans (by kernel_rfl)
end Go.Proofs.YtccgfabojbjmjaaGreatDoor
