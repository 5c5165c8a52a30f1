import Derived.Test.YtccgfabojbjmjaaGreatDoorPx29
import Derived.Laws.CopyOwn
namespace Go.Proofs.YtccgfabojbjmjaaGreatDoor
open Go.RowKit
theorem slice64w (b : Nat) (w : World) :
  (Instr.sliceAt 102 (.pointer (some ⟨b, 0, none⟩)) none none none).run Tryz.prog w = .ok (.slice (some ⟨b, 0, none⟩) 64 64) w := by
 cases hq : Tryz.prog.info? 5 with
 | none => have := sizeU8; rw [hq] at this; cases this
 | some i =>
  simp [Instr.sliceAt, Instr.sureAddr, run_underlying under64, Instr.sliceBounds, sizeOf, typeInfo, hq, Addr.add]
theorem slice64_from (b : Nat) (w : World) :
  (Instr.sliceAt 102 (.pointer (some ⟨b, 0, none⟩)) (some (.int .i64 32)) none none).run Tryz.prog w = .ok (.slice (some ⟨b, 32, none⟩) 32 32) w := by
 cases hq : Tryz.prog.info? 5 with
 | none => have := sizeU8; rw [hq] at this; cases this
 | some i =>
  have hb : (Instr.sliceBound (.int .i64 32) 64 .sliceB).run Tryz.prog w = .ok 32 w := rfl
  have hs : i.size = 1 := by have := sizeU8; rw [hq] at this; simpa using this
  simp [Instr.sliceAt, Instr.sureAddr, run_underlying under64, Instr.sliceBounds, sizeOf, typeInfo, hq, hs, Addr.add, hb]
theorem slice64_to (b : Nat) (w : World) :
  (Instr.sliceAt 102 (.pointer (some ⟨b, 0, none⟩)) none (some (.int .i64 32)) none).run Tryz.prog w = .ok (.slice (some ⟨b, 0, none⟩) 32 64) w := by
 cases hq : Tryz.prog.info? 5 with
 | none => have := sizeU8; rw [hq] at this; cases this
 | some i =>
  have hb : (Instr.sliceBound (.int .i64 32) 64 .sliceAlen).run Tryz.prog w = .ok 32 w := rfl
  simp [Instr.sliceAt, Instr.sureAddr, run_underlying under64, Instr.sliceBounds, sizeOf, typeInfo, hq, Addr.add, hb]
theorem sliceCode_all (b o : Nat) (w : World) :
  (Instr.sliceAt 62 (.pointer (some ⟨b, o, none⟩)) none none none).run Tryz.prog w = .ok (.slice (some ⟨b, o, none⟩) 32 32) w := by
 cases hq : Tryz.prog.info? 5 with
 | none => have := sizeU8; rw [hq] at this; cases this
 | some i =>
  simp [Instr.sliceAt, Instr.sureAddr, run_underlying underCode, Instr.sliceBounds, sizeOf, typeInfo, hq, Addr.add]
theorem hrunCopy {a : Act} {o : Oper} (x y : Operand) (ho : o.op = .call { callee := .builtin .copy, args := #[x, y], argTypes := #[89, 89] })
  (g off q n : Nat) (hn : 32 ≤ n) (hx : a.eval x = .slice (some ⟨g, off, none⟩) n n) (hy : a.eval y = .slice (some ⟨q, 0, none⟩) 32 32) (w : World) (l m : List UInt8) (hl : l.length = 32) (hm : off + 32 ≤ m.length)
  (T U : TypeId) (hq : w.heap[q]? = some (.cells (l.map cv).toArray T (0, 0))) (hg : w.heap[g]? = some (.cells (m.map cv).toArray U (0, 0))) :
  (execOp a.eval o).run Tryz.prog w = .ok (.value (.int .i64 32)) (w.setRow g ((splice m off l).map cv).toArray) := by
 have hrun := run_copy_row (P := Tryz.prog) w 89 89 o.type 5 g off n n ⟨q, 0, none⟩ 32 32 (m.map cv).toArray U (l.map cv) underSl8 sizeU8 hg (by rw [List.length_map, hl]; exact (Nat.min_eq_left hn).symm)
  (fun j v hv => by rw [Addr.add_mid, Nat.zero_add, cell_of_row w q j _ T _ hq]; simpa using hv) (by simp [hl]; omega) (fun v hv => by obtain ⟨c, _, rfl⟩ := List.mem_map.1 hv; rfl)
 have e : ((m.map cv).toArray.toList.take off ++ l.map cv ++ (m.map cv).toArray.toList.drop (off + (l.map cv).length)).toArray = ((splice m off l).map cv).toArray := by
  unfold splice; simp
 rw [e] at hrun
 simp [execOp, ho, resolve, invoke, builtin, hx, hy, hrun, Result.andThen, goInt, hl]
def negP (p : Pt) : Pt := ⟨sP 0 p.x, p.y, p.z, sP 0 p.t⟩
theorem negP_ok {p : Pt} (h : p.Ok) : (negP p).Ok := ⟨sP_lt _ _, h.y, h.z, sP_lt _ _⟩
theorem RP_neg {p : Pt} {a : G} (h : RP p a) : RP (negP p) (gNeg a) := by
 refine ⟨negP_ok h.ok, h.z, ?_, h.y, ?_⟩
 ·
  show tau (sP 0 p.x) = -a.x * tau p.z
  rw [tau_sP _ _ h.ok.x, tau_zero, h.x]
  generalize tau p.z = z; generalize a.x = x; grind
 ·
  show tau (sP 0 p.t) = -a.x * a.y * tau p.z
  rw [tau_sP _ _ h.ok.t, tau_zero, h.t]
  generalize tau p.z = z; generalize a.x = x; generalize a.y = y; grind
section
attribute [local irreducible] num4A nL pA
set_option maxRecDepth 100000 in
set_option maxHeartbeats 4000000 in
theorem ptNegA (p : Pt) (hp : p.Ok) (w : World) :
  Calls Tryz.prog 116 #[.agg (pA p)] w fun e w' => e = .returned (.agg (pA (negP p))) ∧ Below w.heap.size w w' := by
 have hz := zeroE
 have hzp := zeroP
 have Hp := hide hp
 clear hp
 go_enter Tryz.func116, Tryz.ntmps116
 go_upto_region 2 with fail
 generalize hW0 : World.alloc _ _ = W0
 have RP : Hid (W0.heap[w.heap.size]? = some (.cells (pA p) 82 (0, 0))) := by rw [← hW0]; exact heap3_0 _ _ _ _
 have RZ : Hid (W0.heap[w.heap.size + 1]? = some (.cells (pA p0) 82 (0, 0))) := by rw [← hW0]; exact heap3_1 _ _ _ _
 have RN : Hid (W0.heap[w.heap.size + 1 + 1]? = some (.cells (num4A 0) 80 (0, 0))) := by rw [← hW0]; exact heap3_2 _ _ _ _
 have BL : Hid (Below w.heap.size w W0) := by rw [← hW0]; show Below _ _ _; go_grown
 clear hW0
 refine wp_region_held_drew (S := fun w' => w'.rangeAt (w.heap.size + 1 + 1) 0 (nL 0) ∧ w'.rangeAt (w.heap.size) 0 (nL p.x) ∧ w'.rangeAt (w.heap.size) 4 (nL p.y) ∧ w'.rangeAt (w.heap.size) 8 (nL p.z) ∧ w'.rangeAt (w.heap.size) 12 (nL p.t)) (by kernel_rfl) ⟨rangeN RN.out, (rangeP RP.out).1, (rangeP RP.out).2.1, (rangeP RP.out).2.2.1, (rangeP RP.out).2.2.2⟩ (fun hHeld => ?_)
 have KV1 : Hid (Below W0.heap.size W0 W0.drew) := (Below.refl _ _).drew
 obtain ⟨V1, hV1⟩ : ∃ V, V = W0.drew := ⟨_, rfl⟩
 rw [← hV1] at hHeld KV1 ⊢
 clear hV1
 refine wpAnyH_take (i := 0) (oi := ⟨some 4, .load 80 (.tmp 3), 80, "point.go:85", #[], none⟩) (v := .agg (num4A 0)) rfl (by kernel_rfl) (by kernel_rfl) (by kernel_rfl) (fun _ _ _ h => h) (yldN (by rfl) _ rfl (w.heap.size + 1 + 1) 0 0 rfl (fun w h => h.1)) hHeld ?_
 simp only [zaP, zsT, zsZ, zsS]
 refine wpAnyH_take (i := 1) (oi := ⟨some 5, .fieldAddr 82 (.tmp 1) 0, 0, "point.go:85", #[], none⟩) (v := .pointer (some ⟨w.heap.size, 0, none⟩)) rfl (by kernel_rfl) (by kernel_rfl) (by kernel_rfl) (fun _ _ _ h => h) (Or.inl ⟨by rfl, fun w _ => by go_simp⟩) hHeld ?_
 simp only [zaP, zsT, zsZ, zsS]
 refine wpAnyH_take (i := 2) (oi := ⟨some 6, .load 80 (.tmp 5), 80, "point.go:85", #[zeD 1], none⟩) (v := .agg (num4A p.x)) rfl (by kernel_rfl) (by kernel_rfl) (by kernel_rfl) (fun _ _ _ h => h) (yldN (by rfl) _ rfl (w.heap.size) 0 p.x rfl (fun w h => h.2.1)) hHeld ?_
 simp only [zaP, zsT, zsZ, zsS]
 refine wpAnyH_take (i := 4) (oi := ⟨some 8, .fieldAddr 82 (.tmp 1) 1, 0, "point.go:85", #[], none⟩) (v := .pointer (some ⟨w.heap.size, 4, none⟩)) rfl (by kernel_rfl) (by kernel_rfl) (by kernel_rfl) (fun _ _ _ h => h) (Or.inl ⟨by rfl, fun w _ => by go_simp⟩) hHeld ?_
 simp only [zaP, zsT, zsZ, zsS]
 refine wpAnyH_take (i := 5) (oi := ⟨some 9, .load 80 (.tmp 8), 80, "point.go:85", #[zeD 4], none⟩) (v := .agg (num4A p.y)) rfl (by kernel_rfl) (by kernel_rfl) (by kernel_rfl) (fun _ _ _ h => h) (yldN (by rfl) _ rfl (w.heap.size) 4 p.y rfl (fun w h => h.2.2.1)) hHeld ?_
 simp only [zaP, zsT, zsZ, zsS]
 refine wpAnyH_take (i := 6) (oi := ⟨some 10, .fieldAddr 82 (.tmp 1) 2, 0, "point.go:85", #[], none⟩) (v := .pointer (some ⟨w.heap.size, 8, none⟩)) rfl (by kernel_rfl) (by kernel_rfl) (by kernel_rfl) (fun _ _ _ h => h) (Or.inl ⟨by rfl, fun w _ => by go_simp⟩) hHeld ?_
 simp only [zaP, zsT, zsZ, zsS]
 refine wpAnyH_take (i := 7) (oi := ⟨some 11, .load 80 (.tmp 10), 80, "point.go:85", #[zeD 6], none⟩) (v := .agg (num4A p.z)) rfl (by kernel_rfl) (by kernel_rfl) (by kernel_rfl) (fun _ _ _ h => h) (yldN (by rfl) _ rfl (w.heap.size) 8 p.z rfl (fun w h => h.2.2.2.1)) hHeld ?_
 simp only [zaP, zsT, zsZ, zsS]
 refine wpAnyH_take (i := 8) (oi := ⟨some 12, .load 80 (.tmp 3), 80, "point.go:85", #[], none⟩) (v := .agg (num4A 0)) rfl (by kernel_rfl) (by kernel_rfl) (by kernel_rfl) (fun _ _ _ h => h) (yldN (by rfl) _ rfl (w.heap.size + 1 + 1) 0 0 rfl (fun w h => h.1)) hHeld ?_
 simp only [zaP, zsT, zsZ, zsS]
 refine wpAnyH_take (i := 9) (oi := ⟨some 13, .fieldAddr 82 (.tmp 1) 3, 0, "point.go:85", #[], none⟩) (v := .pointer (some ⟨w.heap.size, 12, none⟩)) rfl (by kernel_rfl) (by kernel_rfl) (by kernel_rfl) (fun _ _ _ h => h) (Or.inl ⟨by rfl, fun w _ => by go_simp⟩) hHeld ?_
 simp only [zaP, zsT, zsZ, zsS]
 refine wpAnyH_take (i := 10) (oi := ⟨some 14, .load 80 (.tmp 13), 80, "point.go:85", #[zeD 9], none⟩) (v := .agg (num4A p.t)) rfl (by kernel_rfl) (by kernel_rfl) (by kernel_rfl) (fun _ _ _ h => h) (yldN (by rfl) _ rfl (w.heap.size) 12 p.t rfl (fun w h => h.2.2.2.2)) hHeld ?_
 simp only [zaP, zsT, zsZ, zsS]
 refine wpAnyH_ready (rs := [3]) (by kernel_rfl) (by simp) ?_
 refine AllReadyH.cons (o := ⟨some 7, .call ⟨.value (.func 119), #[.tmp 4, .tmp 6], #[80, 80]⟩, 80, "point.go:85", #[zeD 0, zeD 2], none⟩) rfl (fun K hK => ?_) ?_
 ·
  refine step_callTo (by rfl) _ _ (hrunMinus _ _ rfl (.agg (num4A 0)) (.agg (num4A p.x)) rfl rfl V1) _ _ (feMinus 0 p.x P_pos Hp.out.x V1) (fun V2 HBx => ?_)
  have KV2 := kTr KV1 HBx
  clear HBx
  refine hK.out _ _ ?_ (fun hHeld => ?_)
  · exact ⟨kNm RN KV2, kPx RP KV2, kPy RP KV2, kPz RP KV2, kPt RP KV2⟩
  clear hK K
  try simp only [zaP, zsT, zsZ, zsS]
  refine wpAnyH_ready (rs := [11]) (by kernel_rfl) (by simp) ?_
  refine AllReadyH.cons (o := ⟨some 15, .call ⟨.value (.func 119), #[.tmp 12, .tmp 14], #[80, 80]⟩, 80, "point.go:85", #[zeD 8, zeD 10, zeC 3], none⟩) rfl (fun K hK => ?_) ?_
  ·
   refine step_callTo (by rfl) _ _ (hrunMinus _ _ rfl (.agg (num4A 0)) (.agg (num4A p.t)) rfl rfl V2) _ _ (feMinus 0 p.t P_pos Hp.out.t V2) (fun V3 HBx => ?_)
   have KV3 := kTr KV2 HBx
   clear HBx
   refine hK.out _ _ ?_ (fun hHeld => ?_)
   · exact ⟨kNm RN KV3, kPx RP KV3, kPy RP KV3, kPz RP KV3, kPt RP KV3⟩
   clear hK K
   try simp only [zaP, zsT, zsZ, zsS]
   refine wpAnyH_take (i := 12) (oi := ⟨some 16, .build 82 #[(0, .tmp 7), (1, .tmp 9), (2, .tmp 11), (3, .tmp 15)], 82, "point.go:85", #[zeD 3, zeD 5, zeD 7, zeD 11], none⟩) (v := .agg (pA (negP p))) rfl (by kernel_rfl) (by kernel_rfl) (by kernel_rfl) (fun _ _ _ h => h) (yld_build' (by rfl) _ _ rfl _ _ (by kernel_rfl) (builtP (sP 0 p.x) p.y p.z (sP 0 p.t))) hHeld ?_
   simp only [zaP, zsT, zsZ, zsS]
   refine wpAnyH_ready (rs := [13]) (by kernel_rfl) (by simp) ?_
   refine AllReadyH.cons (o := ⟨none, .store 82 (.tmp 2) (.tmp 16), 0, "point.go:85", #[zeD 12, zeC 11, zeP 0, zeP 1, zeP 2, zeP 3, zeP 4, zeP 5, zeP 6, zeP 7, zeP 8, zeP 9, zeP 10, zeP 11, zeP 12], none⟩) rfl (fun K hK => ?_) ?_
   ·
    refine step_store_row _ (by rfl) 82 (.tmp 2) (.tmp 16) (by rfl) (w.heap.size + 1) (pA (negP p)) (by rfl) (by rfl) 82 _ (row_below RZ.out KV3.out (lt_row RZ.out)) (pA_size _) (pA_old _ _) (pA_all _) ?_
    rw [put_none']
    refine hK.out _ _ ?_ (fun hHeld => ?_)
    · exact ⟨range_set (kNm RN KV3) (by omega), range_set (kPx RP KV3) (by omega), range_set (kPy RP KV3) (by omega), range_set (kPz RP KV3) (by omega), range_set (kPt RP KV3) (by omega)⟩
    clear hK K
    try simp only [zaP, zsT, zsZ, zsS]
    refine wpAnyH_done (by kernel_rfl) ?_ _
    go_wp2_with fail
    have RZ9 := hide (row_below RZ.out KV3.out (lt_row RZ.out))
    have BL9 := hide (BL.out.trans (KV3.out.mono BL.out.size))
    refine bodyPost_ret (v := .agg (pA (negP p))) (results_cell_row Tryz.results116 _ _ (w.heap.size + 1) 82 _ (0, 0) _ (by rfl) (setRow_heap _ _ _ _ _ _ RZ9.out) Tryz.underlying82 rfl (pA_size _)) rfl ⟨rfl, below_setRow BL9.out (by omega) _⟩
   exact AllReadyH.nil
  exact AllReadyH.nil
 exact AllReadyH.nil
end
end Go.Proofs.YtccgfabojbjmjaaGreatDoor
namespace Go.Proofs.YtccgfabojbjmjaaGreatDoor
open Go.RowKit
theorem E8_two : (E8 + 1) + (E8 + 1) = 1 + Qt := by decide +kernel
theorem Qt_two : Qt + Qt = Hf := by decide +kernel
theorem pm_one {t : Nat} (ht : t < P) (h : mP t t = 1) : t = 1 ∨ t = P - 1 := by
 have e : tau t * tau t = 1 := by rw [← tau_mP, h, tau_one]
 have e2 : (tau t - 1) * (tau t + 1) = 0 := by generalize tau t = x at *; grind
 by_cases h1 : tau t - 1 = 0
 ·
  left
  apply tau_inj ht (by decide)
  rw [tau_one]
  generalize tau t = x at *; grind
 ·
  right
  have h2 : tau t + 1 = 0 := by
   by_cases h2 : tau t + 1 = 0
   · exact h2
   · exact absurd e2 (ne_mul h1 h2)
  apply tau_inj ht (by decide)
  have e3 : tau (P - 1) + 1 = 0 := by
   rw [← tau_one, ← tau_aP]; apply Fin.ext; decide +kernel
  generalize tau (P - 1) = m at *
  generalize tau t = x at *; grind
theorem mP_neg {w : Nat} (hw : w < P) : mP w (P - 1) = sP 0 w := by
 apply tau_inj (mP_lt _ _) (sP_lt _ _)
 have e3 : tau (P - 1) + 1 = 0 := by
  rw [← tau_one, ← tau_aP]; apply Fin.ext; decide +kernel
 have e4 := opp_e hw
 rw [tau_mP]
 generalize tau (P - 1) = m at *
 generalize tau (sP 0 w) = s at *
 generalize tau w = x at *; grind
theorem root_there {u v x : Nat} (hu : u < P) (hv : v < P) (h0 : v % P ≠ 0) (hx : x < P) (h : mP (mP x x) v = u) : rootB u v = true := by
 have hw : mP u (invN v) = mP x x := by rw [← h, mP_assoc, mP_inv h0, mP_one (mP_lt _ _)]
 unfold rootB
 apply decide_eq_true
 rw [test_one hu h0, test_two hu h0, root_same hu hv h0, ← pwP_add, E8_two, pwP_add, pwP_one (mP_lt _ _), hw, pwP_mP, ← pwP_add, Qt_two]
 by_cases hz : x = 0
 ·
  left
  subst hz
  have e0 : mP 0 0 = 0 := by decide +kernel
  have e1 : ∀ t, mP 0 t = 0 := fun t => by unfold mP; rw [Nat.zero_mul, Nat.zero_mod]
  rw [e0, e1]
 ·
  have hm : x % P ≠ 0 := by rw [Nat.mod_eq_of_lt hx]; exact hz
  have ht : mP (pwP x Hf) (pwP x Hf) = 1 := by rw [← pwP_add, Hf_two, show pwP x (P - 1) = 1 from fermat hm]
  rcases pm_one (pwP_lt _ _) ht with e | e
  · left; rw [e, mP_one (mP_lt _ _)]
  · right; rw [e, mP_neg (mP_lt _ _)]
theorem root_sq' {u v : Nat} (hu : u < P) (hb : rootB u v = true) : tau (rootV u v) * tau (rootV u v) * tau v = tau u := by
 unfold rootB at hb
 have hb := of_decide_eq_true hb
 unfold rootV
 by_cases h1 : sqrN u v = u
 ·
  rw [if_pos h1]
  have e : tau (sqrN u v) = tau u := by rw [h1]
  unfold sqrN at e
  rw [tau_mP, tau_mP] at e
  exact e
 ·
  rw [if_neg h1]
  have h2 := hb.resolve_left h1
  rw [if_pos h2]
  have e : tau (sqrN u v) = tau (sP 0 u) := by rw [h2]
  unfold sqrN at e
  rw [tau_mP, tau_mP] at e
  rw [tau_mP]
  have e1 := rm_e
  have e2 := opp_e hu
  generalize tau (rtN u v) = t at *
  generalize tau rmN = r at *
  generalize tau (sP 0 u) = m at *
  generalize tau u = uu at *
  generalize tau v = vv at *
  grind
theorem root_two (r x v u : Fin P) (hv : v ≠ 0) (h1 : r * r * v = u) (h2 : x * x * v = u) : r = x ∨ r + x = 0 := by
 have e : (r - x) * (r + x) * v = 0 := by grind
 by_cases h : r - x = 0
 · left; grind
 ·
  right
  by_cases h3 : r + x = 0
  · exact h3
  · exact absurd e (ne_mul (ne_mul h h3) hv)
theorem xs_of {x y : Nat} (hx : x < P) (h : mP (mP x x) (vN y) = uN y) : rootB (uN y) (vN y) = true ∧ xsN y (decide (x % 2 = 1)) = x := by
 have hu : uN y < P := sP_lt _ _
 have hv : vN y < P := aP_lt _ _
 have h0 := vN_ne y
 have hb := root_there hu hv h0 hx h
 refine ⟨hb, ?_⟩
 have hr := root_sq' hu hb
 have hl := rootV_lt (uN y) (vN y)
 have hx2 : tau x * tau x * tau (vN y) = tau (uN y) := by rw [← h, tau_mP, tau_mP]
 have hv0 : tau (vN y) ≠ 0 := by
  intro e
  have := (tau_zero_iff hv).1 e
  rw [this] at h0
  exact h0 rfl
 unfold xsN
 generalize rootV (uN y) (vN y) = r at *
 rcases root_two _ _ _ _ hv0 hr hx2 with e | e
 ·
  have e2 : r = x := tau_inj hl hx e
  subst e2
  rw [if_neg (by simp)]
 ·
  have e3 : r = sP 0 x := by
   apply tau_inj hl (sP_lt _ _)
   have e4 := opp_e hx
   generalize tau (sP 0 x) = m at *
   generalize tau r = rr at *
   generalize tau x = xx at *
   grind
  by_cases hz : x = 0
  ·
   subst hz
   rw [opp_zero] at e3
   subst e3
   decide
  ·
   have hp := opp_odd hx hz
   have hne : (decide (r % 2 = 1) != decide (x % 2 = 1)) = true := by
    rw [e3]
    by_cases h1 : x % 2 = 1
    · rw [decide_eq_true h1, decide_eq_false (by rw [hp]; omega)]; rfl
    · rw [decide_eq_false h1, decide_eq_true (by rw [hp]; omega)]; rfl
   rw [if_pos hne, e3]
   apply tau_inj (sP_lt _ _) hx
   have e5 := opp_e (sP_lt 0 x)
   have e6 := opp_e hx
   generalize tau (sP 0 (sP 0 x)) = m at *
   generalize tau (sP 0 x) = n at *
   generalize tau x = xx at *
   grind
end Go.Proofs.YtccgfabojbjmjaaGreatDoor
namespace Go.Proofs.YtccgfabojbjmjaaGreatDoor
open Go.RowKit
def cdG (a : G) : Nat := codeN a.y.val (decide (a.x.val % 2 = 1))
theorem codeN_lt {y : Nat} (hy : y < P) (odd : Bool) : codeN y odd < 115792089237316195423570985008687907853269984665640564039457584007913129639936 := by
 unfold codeN; rw [P_val] at hy; cases odd <;> simp <;> omega
theorem codeN_y {y : Nat} (hy : y < P) (odd : Bool) : dcY (codeN y odd) = y := by
 unfold dcY codeN; rw [P_val] at hy; cases odd <;> simp <;> omega
theorem codeN_o {y : Nat} (hy : y < P) (odd : Bool) : dcO (codeN y odd) = odd := by
 unfold dcO codeN; rw [P_val] at hy; cases odd <;> simp <;> omega
theorem on_of' (d x y : Fin P) (h : y * y = 1 + x * x + d * (x * x) * (y * y)) : x * x * (y * y * d + 1) = y * y - 1 := by grind
theorem G_root (a : G) : mP (mP a.x.val a.x.val) (vN a.y.val) = uN a.y.val := by
 have hu : uN a.y.val < P := sP_lt _ _
 apply tau_inj (mP_lt _ _) hu
 have h := on_of' dK a.x a.y a.on
 rw [tau_mP, tau_mP, tau_val]
 have e1 : tau (vN a.y.val) = a.y * a.y * dK + 1 := by
  unfold vN dK; rw [tau_aP, tau_mP, tau_mP, tau_one, tau_val]
 have e2 : tau (uN a.y.val) = a.y * a.y - 1 := by
  unfold uN; rw [tau_sP _ _ one_lt, tau_mP, tau_one, tau_val]
 rw [e1, e2]; exact h
theorem dec_code (a : G) : dcB (cdG a) = true ∧ dcP (cdG a) = ptOf a.x.val a.y.val := by
 obtain ⟨hb, hx⟩ := xs_of a.x.isLt (G_root a)
 have hy := a.y.isLt
 have o1 : ofbB a.y.val = true := by unfold ofbB; exact decide_eq_true hy
 have o2 : ofbV a.y.val = a.y.val := by unfold ofbV; rw [if_pos hy]
 have h1 : dcB (cdG a) = true := by
  unfold dcB cdG
  rw [codeN_y hy, codeN_o hy, o1, o2, Bool.true_and]
  unfold xofB
  rw [if_pos hb, hx]
  simp
 refine ⟨h1, ?_⟩
 unfold dcP
 rw [if_pos h1]
 unfold cdG
 rw [codeN_y hy, codeN_o hy, o2]
 unfold xofV
 rw [if_pos hb, hx]
theorem cdG_lt (a : G) : cdG a < 115792089237316195423570985008687907853269984665640564039457584007913129639936 := codeN_lt a.y.isLt _
end Go.Proofs.YtccgfabojbjmjaaGreatDoor
namespace Go.Proofs.YtccgfabojbjmjaaGreatDoor
open Go.RowKit
theorem cdG_injS {a b : G} (h : cdG a = cdG b) : a = b := by
 have e1 := (dec_code a).2
 have e2 := (dec_code b).2
 rw [h] at e1
 have e3 : ptOf a.x.val a.y.val = ptOf b.x.val b.y.val := e1.symm.trans e2
 exact G.ext' (Fin.ext (congrArg Pt.x e3)) (Fin.ext (congrArg Pt.y e3))
theorem Lord_ltS : Lord < 115792089237316195423570985008687907853269984665640564039457584007913129639936 := by decide
theorem bG_ex : ∃ b : G, RP bpP b := by
 obtain ⟨x, y, hx, hy, ho, e⟩ := dcP_on dcB_B
 exact ⟨⟨tau x, tau y, ho⟩, by rw [← bpP_eq, e]; exact RP_of hx hy ho⟩
noncomputable def bG : G := Classical.choose bG_ex
theorem RP_bG : RP bpP bG := Classical.choose_spec bG_ex
theorem cdN_bp : cdN bpP = bcN := by decide +kernel
theorem cdG_B : cdG bG = bcN := by rw [← cdN_bp, code_RP RP_bG]; rfl
theorem cdG_zeroS : cdG g0 = 1 := by
 show codeN (1 : Fin P).val (decide ((0 : Fin P).val % 2 = 1)) = 1
 decide +kernel
theorem LB_codeS : cdN (mlP (pwN bpP) Lord 64) = 1 := by decide +kernel
theorem LBS : gMul Lord bG = g0 := by
 apply cdG_injS
 rw [cdG_zeroS, ← LB_codeS, code_RP (RP_times RP_bG Lord_ltS)]
 rfl
theorem bG_ne : bG ≠ g0 := by
 intro h
 have e := cdG_B
 rw [h, cdG_zeroS] at e
 exact absurd e (by decide)
theorem gMul_g0S : ∀ n, gMul n g0 = g0
 | 0 => rfl
 | n + 1 => by rw [gMul_succ, gMul_g0S n, gAdd_zero]
theorem gAdd_cancel {a b c : G} (h : gAdd a b = gAdd a c) : b = c := by
 have e : gAdd (gNeg a) (gAdd a b) = gAdd (gNeg a) (gAdd a c) := by rw [h]
 rw [← gAdd_assoc, ← gAdd_assoc, gAdd_comm (gNeg a) a, gAdd_neg, gZero_add, gZero_add] at e
 exact e
theorem gMul_cancel {m n : Nat} {a : G} (h : gMul (m + n) a = gMul m a) : gMul n a = g0 := by
 rw [gMul_add] at h
 exact gAdd_cancel (a := gMul m a) (h.trans (gAdd_zero _).symm)
theorem ord_dvd {n : Nat} (h : gMul n bG = g0) : Lord ∣ n := by
 obtain ⟨m, ⟨hm0, hm⟩, hmin⟩ := least (fun m => 0 < m ∧ gMul m bG = g0) Lord ⟨by decide, LBS⟩
 have hall : ∀ k, gMul k bG = g0 → m ∣ k := by
  intro k hk
  have e : m * (k / m) + k % m = k := Nat.div_add_mod k m
  have h1 : gMul (m * (k / m)) bG = g0 := by rw [Nat.mul_comm, gMul_mul, hm, gMul_g0S]
  have h2 : gMul (k % m) bG = g0 := by
   have : gMul (m * (k / m) + k % m) bG = gMul (m * (k / m)) bG := by rw [e, hk, h1]
   exact gMul_cancel this
  have h3 : k % m < m := Nat.mod_lt _ hm0
  have h4 : k % m = 0 := by
   rcases Nat.eq_zero_or_pos (k % m) with z | z
   · exact z
   · exact absurd ⟨z, h2⟩ (hmin _ h3)
  exact Nat.dvd_of_mod_eq_zero h4
 rcases prL.2 m (hall Lord LBS) with rfl | rfl
 · exact absurd ((gMul_one bG).symm.trans hm) bG_ne
 · exact hall n h
theorem gMul_modS (n : Nat) : gMul (n % Lord) bG = gMul n bG := by
 have e : n = n / Lord * Lord + n % Lord := by rw [Nat.mul_comm]; exact (Nat.div_add_mod n Lord).symm
 have h : gMul n bG = gMul (n / Lord * Lord + n % Lord) bG := by rw [← e]
 rw [h, gMul_add, gMul_mul, LBS, gMul_g0S, gZero_add]
noncomputable def vfG (s k : Nat) (a : G) : G := gAdd (gMul s bG) (gNeg (gMul k a))
theorem sig_ok (a r k : Nat) : vfG ((k * a + r) % Lord) k (gMul a bG) = gMul r bG := by
 unfold vfG
 rw [gMul_modS, gMul_add, gMul_mul, gAdd_comm (gMul k _), gAdd_assoc, gAdd_neg, gAdd_zero]
theorem vf_other (s k k' : Nat) (a : G) (h : vfG s k a = vfG s k' a) : gMul k a = gMul k' a := by
 have e := gAdd_cancel h
 have e2 : gAdd (gNeg (gMul k a)) (gMul k a) = gAdd (gNeg (gMul k a)) (gMul k' a) := by
  rw [gAdd_comm, gAdd_neg, e, gAdd_comm, gAdd_neg]
 exact gAdd_cancel e2
theorem times_inj {a k k' : Nat} (ha : ¬ Lord ∣ a) (hk : k < Lord) (hk' : k' < Lord) (h : gMul k (gMul a bG) = gMul k' (gMul a bG)) : k = k' := by
 have step : ∀ x y, x ≤ y → y < Lord → gMul x (gMul a bG) = gMul y (gMul a bG) → x = y := by
  intro x y hxy hy e
  have e1 : gMul (x + (y - x)) (gMul a bG) = gMul x (gMul a bG) := by rw [show x + (y - x) = y by omega]; exact e.symm
  have e2 := gMul_cancel e1
  rw [← gMul_mul] at e2
  rcases prL.dvd_mul (ord_dvd e2) with d | d
  ·
   rcases Nat.eq_zero_or_pos (y - x) with z | z
   · omega
   · have := Nat.le_of_dvd z d; omega
  · exact absurd d ha
 rcases Nat.le_total k k' with c | c
 · exact step k k' c hk' h
 · exact (step k' k c hk h.symm).symm
theorem sig_iff {a r k k' : Nat} (ha : ¬ Lord ∣ a) (hk : k < Lord) (hk' : k' < Lord) : vfG ((k * a + r) % Lord) k' (gMul a bG) = gMul r bG ↔ k = k' := by
 constructor
 ·
  intro h
  exact times_inj ha hk hk' (vf_other _ _ _ _ ((sig_ok a r k).trans h.symm))
 ·
  rintro rfl
  exact sig_ok a r k
theorem seed_no {a : Nat} (h8 : a % 8 = 0) (h1 : 28948022309329048855892746252171976963317496166410141009864396001978282409984 ≤ a) (h2 : a < 57896044618658097711785492504343953926634992332820282019728792003956564819968) : ¬ Lord ∣ a := by
 rintro ⟨m, rfl⟩
 have hm : m < 8 := by
  rcases Nat.lt_or_ge m 8 with c | c
  · exact c
  · exact absurd (Nat.lt_of_le_of_lt (Nat.mul_le_mul_left Lord c) h2) (by decide)
 have all : ∀ m, m < 8 → ¬ (Lord * m % 8 = 0 ∧ 28948022309329048855892746252171976963317496166410141009864396001978282409984 ≤ Lord * m) := by decide
 exact all m hm ⟨h8, h1⟩
end Go.Proofs.YtccgfabojbjmjaaGreatDoor
