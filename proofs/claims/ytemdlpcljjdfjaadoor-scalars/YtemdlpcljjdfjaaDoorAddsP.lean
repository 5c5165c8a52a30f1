import Derived.Test.YtemdlpcljjdfjaaDoorLaidOrd
import Derived.Test.YtemdlpcljjdfjaaDoorAddsW
import Derived.LaidSub
/- The variables that Adds reads: what the row's list gives; a world for a witness. -/
namespace Go.Proofs.YtemdlpcljjdfjaaDoor
open Go.ChangeShapes Go.WideShapes Go.ChangeAt Go.RowKit
theorem cellsEl : Tryd.prog.cellsOf 42 = 4 := by kernel_rfl
theorem el_row {W : World} {nm : String} {g : Nat} {zs : List Int} {n : Nat} (hg : Tryd.prog.globalNamed nm = some g) (hn : (zs.map fun z => Value.int .u64 z).toArray = num4A n) (t : Lib.TabIs Tryd.prog W nm .u64 zs) : ∃ T fr, W.heap[g]? = some (.cells (num4A n) T fr) := by
  unfold Lib.TabIs World.var? at t
  rw [hg] at t
  simp only [Option.bind_some] at t
  split at t
  · rename_i cs ty fr h
    refine ⟨ty, fr, h.trans ?_⟩
    rw [Option.some.inj t, ← hn]
  · cases t
theorem gvM : Tryd.prog.globalNamed "latch/field.modulus" = some 4 := by kernel_rfl
theorem gtM : (Tryd.prog.globals[4]?).map (·.type) = some 42 := by kernel_rfl
def intsM : List Int := [18446744073709551597, 18446744073709551615, 18446744073709551615, 9223372036854775807]
theorem laidM : (Rows.laid_latch_field_modulus : DataW Unit) = Lib.tabData .u64 intsM := by kernel_rfl
theorem numM : (intsM.map fun z => Value.int .u64 z).toArray = num4A P := by kernel_rfl
theorem metM {W : World} (h : laidMetH Tryd.prog Rows.addsRow.laid W) : ∃ T fr, W.heap[4]? = some (.cells (num4A P) T fr) := by
  have h1 : laidMetH Tryd.prog [("latch/field.modulus", Rows.laid_latch_field_modulus)] W := laidMetH.filter (fun x => x.1 == "latch/field.modulus") h
  refine el_row gvM numM (Lib.tabIs_of_head (rest := []) gvM gtM under33 underU64 cells64 cellsEl ?_)
  rw [← laidM]; exact h1
theorem gvR : Tryd.prog.globalNamed "latch/field.rootOfMinusOne" = some 6 := by kernel_rfl
theorem gtR : (Tryd.prog.globals[6]?).map (·.type) = some 42 := by kernel_rfl
def intsR : List Int := [14190309331451158704, 3405592160176694392, 3120150775007532967, 3135389899092516619]
theorem laidR : (Rows.laid_latch_field_rootOfMinusOne : DataW Unit) = Lib.tabData .u64 intsR := by kernel_rfl
theorem numR : (intsR.map fun z => Value.int .u64 z).toArray = num4A rmN := by kernel_rfl
theorem metR {W : World} (h : laidMetH Tryd.prog Rows.addsRow.laid W) : ∃ T fr, W.heap[6]? = some (.cells (num4A rmN) T fr) := by
  have h1 : laidMetH Tryd.prog [("latch/field.rootOfMinusOne", Rows.laid_latch_field_rootOfMinusOne)] W := laidMetH.filter (fun x => x.1 == "latch/field.rootOfMinusOne") h
  refine el_row gvR numR (Lib.tabIs_of_head (rest := []) gvR gtR under33 underU64 cells64 cellsEl ?_)
  rw [← laidR]; exact h1
theorem gvO : Tryd.prog.globalNamed "latch/curve.one" = some 2 := by kernel_rfl
theorem gtO : (Tryd.prog.globals[2]?).map (·.type) = some 42 := by kernel_rfl
def intsO : List Int := [1, 0, 0, 0]
theorem laidO : (Rows.laid_latch_curve_one : DataW Unit) = Lib.tabData .u64 intsO := by kernel_rfl
theorem numO : (intsO.map fun z => Value.int .u64 z).toArray = num4A 1 := by kernel_rfl
theorem metO {W : World} (h : laidMetH Tryd.prog Rows.addsRow.laid W) : ∃ T fr, W.heap[2]? = some (.cells (num4A 1) T fr) := by
  have h1 : laidMetH Tryd.prog [("latch/curve.one", Rows.laid_latch_curve_one)] W := laidMetH.filter (fun x => x.1 == "latch/curve.one") h
  refine el_row gvO numO (Lib.tabIs_of_head (rest := []) gvO gtO under33 underU64 cells64 cellsEl ?_)
  rw [← laidO]; exact h1
theorem gvD : Tryd.prog.globalNamed "latch/curve.d" = some 5 := by kernel_rfl
theorem gtD : (Tryd.prog.globals[5]?).map (·.type) = some 42 := by kernel_rfl
def intsD : List Int := [8496970652267935907, 31536524315187371, 10144147576115030168, 5909686906226998899]
theorem laidD : (Rows.laid_latch_curve_d : DataW Unit) = Lib.tabData .u64 intsD := by kernel_rfl
theorem numD : (intsD.map fun z => Value.int .u64 z).toArray = num4A dN := by kernel_rfl
theorem metD {W : World} (h : laidMetH Tryd.prog Rows.addsRow.laid W) : ∃ T fr, W.heap[5]? = some (.cells (num4A dN) T fr) := by
  have h1 : laidMetH Tryd.prog [("latch/curve.d", Rows.laid_latch_curve_d)] W := laidMetH.filter (fun x => x.1 == "latch/curve.d") h
  refine el_row gvD numD (Lib.tabIs_of_head (rest := []) gvD gtD under33 underU64 cells64 cellsEl ?_)
  rw [← laidD]; exact h1
theorem gvT : Tryd.prog.globalNamed "latch/curve.twoD" = some 0 := by kernel_rfl
theorem gtT : (Tryd.prog.globals[0]?).map (·.type) = some 42 := by kernel_rfl
def intsT : List Int := [16993941304535871833, 63073048630374742, 1841551078520508720, 2596001775599221991]
theorem laidT : (Rows.laid_latch_curve_twoD : DataW Unit) = Lib.tabData .u64 intsT := by kernel_rfl
theorem numT : (intsT.map fun z => Value.int .u64 z).toArray = num4A (mP 2 dN) := by kernel_rfl
theorem metT {W : World} (h : laidMetH Tryd.prog Rows.addsRow.laid W) : ∃ T fr, W.heap[0]? = some (.cells (num4A (mP 2 dN)) T fr) := by
  have h1 : laidMetH Tryd.prog [("latch/curve.twoD", Rows.laid_latch_curve_twoD)] W := laidMetH.filter (fun x => x.1 == "latch/curve.twoD") h
  refine el_row gvT numT (Lib.tabIs_of_head (rest := []) gvT gtT under33 underU64 cells64 cellsEl ?_)
  rw [← laidT]; exact h1
/-- WHAT THE ROW's LIST GIVES. -/
theorem gl_met {W : World} (h : laidMetH Tryd.prog Rows.addsRow.laid W) : Gl W := ⟨metT h, metO h, metM h, metD h, metR h⟩
/-- A variable's row in place of what it was. -/
def putR (i : Nat) (cs : Array Value) (h : Array Obj) : Array Obj := h.modify i fun
  | .cells _ t frozen => .cells cs t frozen
  | o => o
/-- A WORLD FOR THE WITNESS. -/
noncomputable def laidWorldA (os : Os) : World :=
  { World.holding Tryd.prog os ⟨#[], #[], []⟩ with heap := putR 0 #[.int .u64 16993941304535871833, .int .u64 63073048630374742, .int .u64 1841551078520508720, .int .u64 2596001775599221991] (putR 5 #[.int .u64 8496970652267935907, .int .u64 31536524315187371, .int .u64 10144147576115030168, .int .u64 5909686906226998899] (putR 2 #[.int .u64 1, .int .u64 0, .int .u64 0, .int .u64 0] (putR 6 #[.int .u64 14190309331451158704, .int .u64 3405592160176694392, .int .u64 3120150775007532967, .int .u64 3135389899092516619] (putR 4 #[.int .u64 18446744073709551597, .int .u64 18446744073709551615, .int .u64 18446744073709551615, .int .u64 9223372036854775807] ((World.holding Tryd.prog os ⟨#[], #[], []⟩).heap))))) }
end Go.Proofs.YtemdlpcljjdfjaaDoor
/- latchlaw.Adds: the row, and the card. -/
namespace Go.Proofs.YtemdlpcljjdfjaaDoor
open Go.ChangeShapes Go.WideShapes Go.ChangeAt Go.RowKit
open Go.ChangeMaps (open_string shut_string)

set_option maxRecDepth 100000 in
theorem adds_contract (H : Type) (enc : TypeId × Value → H) (W : World) (base : Nat) (args : Array Value) (ds gs : List (DataW H)) (before : List MemPlace)
    (hval : ∀ (j : Nat) t v, Tryd.f4.params[j]? = some t → args[j]? = some v → Value.okWide Tryd.prog W .any base t v)
    (hW : DataW.Whole enc Tryd.prog Tryd.f4.params.toList Rows.addsSpec.vars false W args.toList ds gs before)
    (_hsz : (DataW.weightsEach Tryd.prog (Tryd.f4.params.toList ++ (OpenSpec.ofChange Rows.addsSpec).bare.plain.varTypes Tryd.prog) (ds ++ gs)).all (· ≤ reachBytes) = true)
    (hL : laidMetH Tryd.prog Rows.addsRow.laid W) :
    Calls Tryd.prog 4 args W fun e W' => ∃ v, e = .returned v ∧ Rows.addsSpec.post enc Tryd.prog Tryd.f4 false true false false W args v W' := by

  have hW' := hW
  obtain ⟨p, q, hA0, hV, rfl, hfz, hnd⟩ := hW
  have hA : DataW.TrodAll enc Tryd.prog W 0 (fun _ => true) true Tryd.f4.params.toList args.toList ds p := hA0
  rw [Tryd.params4] at hA hval
  obtain ⟨v0, vs0, d0, ds0, p0, q0, hargs, rfl, rfl, h0, r0⟩ := trodAll_cons hA
  obtain ⟨v1, vs1, d1, ds1, p1, q1, hargs1, rfl, rfl, h1, r1⟩ := trodAll_cons r0
  obtain ⟨rfl, rfl, rfl⟩ := trodAll_nil r1
  obtain rfl : args = #[v0, v1] := by cases args; simp_all
  obtain ⟨rfl, rfl⟩ := trodVars_none hV
  obtain ⟨a0, rfl, rfl, rfl, w0⟩ := open_string Tryd.underlying9 (hval 0 9 v0 rfl rfl) h0
  obtain ⟨a1, rfl, rfl, rfl, w1⟩ := open_string Tryd.underlying9 (hval 1 9 v1 rfl rfl) h1
  clear hA0
  refine (adds_any a0 a1 W (gl_met hL)).mono fun e W' ⟨he, bel⟩ => ?_
  subst he
  exact ⟨_, rfl, _, _, _, [], _, [], hW', trodAll_mk1 (shut_bool Tryd.underlying4 _), (trodAll_cons_mk (shut_string Tryd.underlying9 w0) (trodAll_cons_mk (shut_string Tryd.underlying9 w1) trodAll_mk0)), rfl, bel.frame _, fun h => by cases h⟩

theorem adds_laid_met (os : Os) : laidMet Tryd.prog Rows.addsRow.laid ((laidWorldA os).forCall (fun _ _ => 0) ⟨#[], #[.string ByteArray.empty, .string ByteArray.empty], []⟩).memory :=
  laidMet_of_run' 200 (by kernel_rfl) (by kernel_rfl)

set_option maxRecDepth 100000 in
theorem adds_lifted (os : Os) (started : os.Started) (H : Type) (enc : TypeId × Value → H) (F : Stop.Interp) :
    ReturnsInHanded {} Tryd.checked os 4 .any ((OpenSpec.ofChange Rows.addsSpec).preRow enc Tryd.prog Tryd.f4 Rows.addsRow.domain false Rows.addsRow.laid) (((OpenSpec.ofChange Rows.addsSpec).at F).post enc Tryd.prog Tryd.f4 false true false false) := by
  refine returnsInHanded_of_row (C := Tryd.checked) (s := OpenSpec.ofChange Rows.addsSpec) own started (by kernel_rfl) Tryd.func4
    (witness_row_at (enc := enc) (C := Tryd.checked) false (laidWorldA os) #[.string ByteArray.empty, .string ByteArray.empty] rfl (by kernel_rfl) (by kernel_rfl) (by kernel_rfl)
      (OpenSpec.preRow_of_cond (x := ([.lit (.string []), .lit (.string [])], [], [])) 8 (by kernel_rfl) (by kernel_rfl) (fun k hk => by cases hk) (by kernel_rfl) (adds_laid_met os))) ?_
  intro W base args ds gs before hval hW _ _ hsz hL _ _
  exact adds_contract H enc W base args ds gs before hval hW hsz hL

theorem adds_said : Rows.AddsSaid :=
  OpenClaim.holds_of_cond 4 Tryd.f4 rfl rfl rfl rfl rfl rfl rfl ⟨rfl, rfl, rfl, rfl, rfl⟩ rfl rfl rfl rfl rfl (by kernel_rfl) Tryd.func4 (by kernel_rfl)
    (of_decide_eq_true (by kernel_rfl)) (by unfold Func.isWrapper; first | (rw [if_pos (by decide +kernel)]; kernel_rfl) | (rw [if_neg (by decide +kernel)]; exact ⟨rfl, rfl⟩))
    (fun os started H enc _ F => by rw [OpenClaim.pre_eq_preRow]; exact adds_lifted os started H enc F)

theorem adds_plain (f : FuncId) (fn : Func) (hf : Tryd.pinned.checked.prog.funcNamed "latch/latchlaw.Adds" = some f) (hfn : Tryd.pinned.checked.prog.funcs[f]? = some fn) :
    false = Tryd.pinned.checked.prog.looks [] ∧ ∀ (j : Nat) t, fn.params[j]? = some t → Tryd.pinned.checked.prog.wantsStandIn t = false := by
  obtain rfl : f = 4 := Option.some.inj ((show Tryd.prog.funcNamed "latch/latchlaw.Adds" = some 4 by kernel_rfl).symm.trans hf) |>.symm
  obtain rfl : fn = Tryd.f4 := (Option.some.inj (Tryd.func4.symm.trans hfn)).symm
  refine ⟨by kernel_rfl, fun j t ht => ?_⟩
  rw [Tryd.params4] at ht
  obtain rfl : t = 9 := by simpa using Array.mem_of_getElem? ht
  exact (show Tryd.prog.wantsStandIn 9 = false by kernel_rfl)

/-- THE CARD. -/
theorem adds_card : Rows.AddsCardSaid :=
  Claim7.holds_tied_plain_at .later [] _ _ _ _ adds_said (fun _ h => by cases h) (by kernel_rfl) (fun _ h => by cases h) adds_row_tie rfl ⟨rfl, rfl⟩ (by kernel_rfl) rfl adds_plain (by kernel_rfl)
#print axioms adds_card
end Go.Proofs.YtemdlpcljjdfjaaDoor
