import Derived.LaidSub
import Derived.LaidLaws
import Derived.LaidHandle
import Derived.Test.YtccgfabojbjmjaaGreatDoorPx46
namespace Go.Proofs.YtccgfabojbjmjaaGreatDoor
open Go.ChangeShapes Go.WideShapes Go.ChangeAt Go.RowKit
theorem cellsEl : Tryz.prog.cellsOf 80 = 4 := by kernel_rfl
theorem el_row {W : World} {nm : String} {g : Nat} {zs : List Int} {n : Nat} (hg : Tryz.prog.globalNamed nm = some g) (hn : (zs.map fun z => Value.int .u64 z).toArray = num4A n) (t : Lib.TabIs Tryz.prog W nm .u64 zs) : ∃ T fr, W.heap[g]? = some (.cells (num4A n) T fr) := by
 unfold Lib.TabIs World.var? at t
 rw [hg] at t
 simp only [Option.bind_some] at t
 split at t
 ·
  rename_i cs ty fr h
  refine ⟨ty, fr, h.trans ?_⟩
  rw [Option.some.inj t, ← hn]
 · cases t
theorem gvM : Tryz.prog.globalNamed "latch/field.modulus" = some 10 := by kernel_rfl
theorem gtM : (Tryz.prog.globals[10]?).map (·.type) = some 80 := by kernel_rfl
def intsM : List Int := [18446744073709551597, 18446744073709551615, 18446744073709551615, 9223372036854775807]
theorem laidM : (Rows.laid_latch_field_modulus : DataW Unit) = Lib.tabData .u64 intsM := by kernel_rfl
theorem numM : (intsM.map fun z => Value.int .u64 z).toArray = num4A P := by kernel_rfl
theorem gvR : Tryz.prog.globalNamed "latch/field.rootOfMinusOne" = some 12 := by kernel_rfl
theorem gtR : (Tryz.prog.globals[12]?).map (·.type) = some 80 := by kernel_rfl
def intsR : List Int := [14190309331451158704, 3405592160176694392, 3120150775007532967, 3135389899092516619]
theorem laidR : (Rows.laid_latch_field_rootOfMinusOne : DataW Unit) = Lib.tabData .u64 intsR := by kernel_rfl
theorem numR : (intsR.map fun z => Value.int .u64 z).toArray = num4A rmN := by kernel_rfl
theorem gvO : Tryz.prog.globalNamed "latch/curve.one" = some 8 := by kernel_rfl
theorem gtO : (Tryz.prog.globals[8]?).map (·.type) = some 80 := by kernel_rfl
def intsO : List Int := [1, 0, 0, 0]
theorem laidO : (Rows.laid_latch_curve_one : DataW Unit) = Lib.tabData .u64 intsO := by kernel_rfl
theorem numO : (intsO.map fun z => Value.int .u64 z).toArray = num4A 1 := by kernel_rfl
theorem gvD : Tryz.prog.globalNamed "latch/curve.d" = some 11 := by kernel_rfl
theorem gtD : (Tryz.prog.globals[11]?).map (·.type) = some 80 := by kernel_rfl
def intsD : List Int := [8496970652267935907, 31536524315187371, 10144147576115030168, 5909686906226998899]
theorem laidD : (Rows.laid_latch_curve_d : DataW Unit) = Lib.tabData .u64 intsD := by kernel_rfl
theorem numD : (intsD.map fun z => Value.int .u64 z).toArray = num4A dN := by kernel_rfl
theorem gvT : Tryz.prog.globalNamed "latch/curve.twoD" = some 5 := by kernel_rfl
theorem gtT : (Tryz.prog.globals[5]?).map (·.type) = some 80 := by kernel_rfl
def intsT : List Int := [16993941304535871833, 63073048630374742, 1841551078520508720, 2596001775599221991]
theorem laidT : (Rows.laid_latch_curve_twoD : DataW Unit) = Lib.tabData .u64 intsT := by kernel_rfl
theorem numT : (intsT.map fun z => Value.int .u64 z).toArray = num4A (mP 2 dN) := by kernel_rfl
def putR (i : Nat) (cs : Array Value) (h : Array Obj) : Array Obj := h.modify i fun
 | .cells _ t frozen => .cells cs t frozen
 | o => o
noncomputable def laidWorldA (os : Os) : World :=
 { World.holding Tryz.prog os ⟨#[], #[], []⟩ with heap := putR 5 #[.int .u64 16993941304535871833, .int .u64 63073048630374742, .int .u64 1841551078520508720, .int .u64 2596001775599221991] (putR 11 #[.int .u64 8496970652267935907, .int .u64 31536524315187371, .int .u64 10144147576115030168, .int .u64 5909686906226998899] (putR 8 #[.int .u64 1, .int .u64 0, .int .u64 0, .int .u64 0] (putR 12 #[.int .u64 14190309331451158704, .int .u64 3405592160176694392, .int .u64 3120150775007532967, .int .u64 3135389899092516619] (putR 10 #[.int .u64 18446744073709551597, .int .u64 18446744073709551615, .int .u64 18446744073709551615, .int .u64 9223372036854775807] ((World.holding Tryz.prog os ⟨#[], #[], []⟩).heap))))) }
end Go.Proofs.YtccgfabojbjmjaaGreatDoor
namespace Go.Proofs.YtccgfabojbjmjaaGreatDoor
open Go.ChangeShapes Go.WideShapes Go.ChangeAt Go.RowKit
theorem el_met {L : List (String × DataW Unit)} {W : World} {nm : String} {lay : DataW Unit} {g : Nat} {zs : List Int} {n : Nat} (hL : laidMetH Tryz.prog L W) (hf : L.filter (fun x => x.1 == nm) = [(nm, lay)]) (hg : Tryz.prog.globalNamed nm = some g) (ht : (Tryz.prog.globals[g]?).map (·.type) = some 80) (hl : lay = Lib.tabData .u64 zs) (hn : (zs.map fun z => Value.int .u64 z).toArray = num4A n) : ∃ T fr, W.heap[g]? = some (.cells (num4A n) T fr) := by
 have h1 : laidMetH Tryz.prog (L.filter (fun x => x.1 == nm)) W := laidMetH.filter (fun x => x.1 == nm) hL
 rw [hf, hl] at h1
 exact el_row hg hn (Lib.tabIs_of_head (rest := []) hg ht under33 underU64 cells64 cellsEl h1)
theorem gvC : Tryz.prog.globalNamed "latch/curve.baseCode" = some 7 := by kernel_rfl
theorem gtC : (Tryz.prog.globals[7]?).map (·.type) = some 62 := by kernel_rfl
theorem cellsCode : Tryz.prog.cellsOf 62 = 32 := by kernel_rfl
theorem cellsU8 : Tryz.prog.cellsOf 5 = 1 := by kernel_rfl
theorem underCode32 : Tryz.prog.underlying 62 = some (.array 32 5) := by kernel_rfl
def intsC : List Int := [88, 102, 102, 102, 102, 102, 102, 102, 102, 102, 102, 102, 102, 102, 102, 102, 102, 102, 102, 102, 102, 102, 102, 102, 102, 102, 102, 102, 102, 102, 102, 102]
theorem laidC : (Rows.laid_latch_curve_baseCode : DataW Unit) = Lib.tabData .u8 intsC := by kernel_rfl
theorem numC : (intsC.map fun z => Value.int .u8 z).toArray = bA bcN := by kernel_rfl
theorem code_met {L : List (String × DataW Unit)} {W : World} (hL : laidMetH Tryz.prog L W) (hf : L.filter (fun x => x.1 == "latch/curve.baseCode") = [("latch/curve.baseCode", Rows.laid_latch_curve_baseCode)]) : ∃ T fr, W.heap[7]? = some (.cells (bA bcN) T fr) := by
 have h1 : laidMetH Tryz.prog (L.filter (fun x => x.1 == "latch/curve.baseCode")) W := laidMetH.filter (fun x => x.1 == "latch/curve.baseCode") hL
 rw [hf, laidC] at h1
 have t := Lib.tabIs_of_head (rest := []) gvC gtC underCode32 under8' cellsU8 cellsCode h1
 unfold Lib.TabIs World.var? at t
 rw [gvC] at t
 simp only [Option.bind_some] at t
 split at t
 ·
  rename_i cs ty fr h
  refine ⟨ty, fr, h.trans ?_⟩
  rw [Option.some.inj t, ← numC]
 · cases t
theorem glB_of {L : List (String × DataW Unit)} {W : World} (h : laidMetH Tryz.prog L W)
  (fM : L.filter (fun x => x.1 == "latch/field.modulus") = [("latch/field.modulus", Rows.laid_latch_field_modulus)])
  (fR : L.filter (fun x => x.1 == "latch/field.rootOfMinusOne") = [("latch/field.rootOfMinusOne", Rows.laid_latch_field_rootOfMinusOne)])
  (fC : L.filter (fun x => x.1 == "latch/curve.baseCode") = [("latch/curve.baseCode", Rows.laid_latch_curve_baseCode)])
  (fO : L.filter (fun x => x.1 == "latch/curve.one") = [("latch/curve.one", Rows.laid_latch_curve_one)])
  (fD : L.filter (fun x => x.1 == "latch/curve.d") = [("latch/curve.d", Rows.laid_latch_curve_d)])
  (fT : L.filter (fun x => x.1 == "latch/curve.twoD") = [("latch/curve.twoD", Rows.laid_latch_curve_twoD)]) : GlB W :=
 ⟨⟨el_met h fT gvT gtT laidT numT, el_met h fO gvO gtO laidO numO, el_met h fM gvM gtM laidM numM, el_met h fD gvD gtD laidD numD, el_met h fR gvR gtR laidR numR⟩, code_met h fC⟩
noncomputable def laidWorldB (os : Os) : World :=
 { laidWorldA os with heap := putR 7 (intsC.map fun z => Value.int .u8 z).toArray (laidWorldA os).heap }
end Go.Proofs.YtccgfabojbjmjaaGreatDoor
namespace Go.Proofs.YtccgfabojbjmjaaGreatDoor
open Go.ChangeShapes Go.WideShapes Go.ChangeAt Go.RowKit
theorem gTabS : Tryz.prog.globalNamed "latch/digest.roundWords" = some 9 := by kernel_rfl
theorem gTabTypeS : (Tryz.prog.globals[9]?).map (·.type) = some 257 := by kernel_rfl
theorem cells80S : Tryz.prog.cellsOf 257 = 80 := by kernel_rfl
def kintsS : List Int := kws.map U
theorem laid_tabS : (Rows.laid_latch_digest_roundWords : DataW Unit) = Lib.tabData .u64 kintsS := by kernel_rfl
theorem kintsS_get (i : Nat) (h : i < 80) : kintsS.getD i 0 = U (kw i) := by
 have hl : i < kws.length := h
 simp [kintsS, kw, List.getD, List.getElem?_eq_getElem hl]
set_option maxRecDepth 100000 in
theorem tab_met {L : List (String × DataW Unit)} {W : World} (hL : laidMetH Tryz.prog L W) (hf : L.filter (fun x => x.1 == "latch/digest.roundWords") = [("latch/digest.roundWords", Rows.laid_latch_digest_roundWords)]) : Tab W := by
 have h1 : laidMetH Tryz.prog (L.filter (fun x => x.1 == "latch/digest.roundWords")) W := laidMetH.filter (fun x => x.1 == "latch/digest.roundWords") hL
 rw [hf, laid_tabS] at h1
 have t : Lib.TabIs Tryz.prog W "latch/digest.roundWords" .u64 kintsS := Lib.tabIs_of_head (rest := []) gTabS gTabTypeS under80 underU64 cells64 cells80S h1
 intro i hi
 have e := t.cell gTabS i (by show i < kintsS.length; exact hi)
 rw [kintsS_get i hi] at e
 exact e
theorem ord_met {L : List (String × DataW Unit)} {W : World} (hL : laidMetH Tryz.prog L W) (hf : L.filter (fun x => x.1 == "latch/scalar.order") = [("latch/scalar.order", Rows.laid_latch_scalar_order)]) : OrdAt W := by
 have h1 : laidMetH Tryz.prog (L.filter (fun x => x.1 == "latch/scalar.order")) W := laidMetH.filter (fun x => x.1 == "latch/scalar.order") hL
 rw [hf] at h1
 exact order_met h1
theorem gErr : Tryz.prog.globalNamed "errors.errorType" = some 3 := by kernel_rfl
theorem rtS : (Tryz.prog.cutTypes.find? (·.1 == "internal/reflectlite.rtype")).map (·.2) = some 239 := by kernel_rfl
theorem oneRowS : ((List.range 312).filter fun t => Tryz.prog.rowNamed t [101, 114, 114, 111, 114]) = [66] := by kernel_rfl
theorem sizeTS : Tryz.prog.types.size = 312 := by kernel_rfl
set_option maxRecDepth 100000 in
theorem err_met {L : List (String × DataW Unit)} {W : World} (hL : laidMetH Tryz.prog L W) (hf : L.filter (fun x => x.1 == "errors.errorType") = [("errors.errorType", Rows.laid_errors_errorType)]) : W.cell? ⟨3, 0, none⟩ = some (rtV 66) := by
 have h1 : laidMetH Tryz.prog (L.filter (fun x => x.1 == "errors.errorType")) W := laidMetH.filter (fun x => x.1 == "errors.errorType") hL
 rw [hf] at h1
 have h' : laidMet Tryz.prog [] W ∧ handlesMet Tryz.prog [("errors.errorType", Rows.laid_errors_errorType)] W := h1
 obtain ⟨name, u, ty, e1, e2, e3, e4, e5⟩ := h'.2 _ (List.mem_singleton.2 rfl)
 have en : name = [101, 114, 114, 111, 114] := (Option.some.inj e1).symm
 subst en
 obtain rfl := Option.some.inj (rtS.symm.trans e2)
 have hm : ty ∈ (List.range 312).filter fun t => Tryz.prog.rowNamed t [101, 114, 114, 111, 114] := List.mem_filter.2 ⟨List.mem_range.2 (by rw [← sizeTS]; exact e3), e4⟩
 rw [oneRowS] at hm
 obtain rfl := List.mem_singleton.1 hm
 have hh : typeHandle Tryz.prog 66 = .pointer (some ⟨13, 66, none⟩) := by kernel_rfl
 rw [hh] at e5
 simpa using World.var?_cell gErr e5 0
theorem starE : "*" ++ "errors.errorString" = "*errors.errorString" := by decide
theorem rowE (u : TypeId) (h : Tryz.prog.typeName? 3 u = some "*errors.errorString") : u = 282 :=
 typeName_ptr_named (nm := "errors.errorString") (by rw [starE]; kernel_rfl) (by kernel_rfl) (by decide) u (by rw [starE]; exact h)
theorem cellsES : Tryz.prog.cellsOf 301 = 1 := by kernel_rfl
theorem cellsStr : Tryz.prog.cellsOf 9 = 1 := by kernel_rfl
set_option maxRecDepth 100000 in
theorem sent_met {L : List (String × DataW Unit)} {W : World} {nm : String} {g : Nat} {text : List UInt8} (hL : laidMetH Tryz.prog L W) (hf : L.filter (fun x => x.1 == nm) = [(nm, .iface "*errors.errorString" (.ptr (.agg [.lit (.string text)])))]) (hg : Tryz.prog.globalNamed nm = some g) (ht : (Tryz.prog.globals[g]?).map (·.type) = some 66) :
  ∃ (a : Addr) (s : ByteArray), SentP W g a ∧ W.cell? a = some (.string s) ∧ s.data.toList = text := by
 have h1 : laidMetH Tryz.prog (L.filter (fun x => x.1 == nm)) W := laidMetH.filter (fun x => x.1 == nm) hL
 rw [hf] at h1
 have h2 : laidMet Tryz.prog [(nm, .iface "*errors.errorString" (.ptr (.agg [.lit (.string text)])))] W := h1
 obtain ⟨ps, ⟨g0, t0, cs0, f0, p0, q0, hg0, ht0, hv0, hd0, hq0, e0⟩, hnd, hrows⟩ := h2
 obtain rfl := Option.some.inj (hg.symm.trans hg0)
 obtain rfl := Option.some.inj (ht.symm.trans ht0)
 have hq0' : q0 = [] := hq0
 subst hq0'
 subst e0
 obtain ⟨l0⟩ := cs0
 have ok0 : ∀ u v, l0 = [.iface u v] → Value.okWide Tryz.prog W .any 0 u v := fun u v e => by
  subst e
  exact (hrows g 0 (by simp [MemPlace.row])).2 u v (by simpa using World.var?_cell hg0 hv0 0)
 obtain ⟨a0, s0, rfl, hc0, hs0, hz0, rfl⟩ := errorString_of_trod Tryz.underlying66 rowE Tryz.underlying282 Tryz.underlying301 rfl rfl Tryz.underlying9 cellsES cellsStr hd0 ok0
 obtain ⟨c0, t0, hb0⟩ := (hrows a0.block a0.off (by simp [MemPlace.row])).1
 exact ⟨a0, s0, ⟨by simpa [esI] using World.var?_cell hg0 hv0 0, c0, t0, hb0⟩, hc0, hs0⟩
theorem sent_ne {W : World} {a b : Addr} {s t : ByteArray} (ha : W.cell? a = some (.string s)) (hb : W.cell? b = some (.string t)) {x y : List UInt8} (hs : s.data.toList = x) (ht : t.data.toList = y) (h : x ≠ y) : a ≠ b := by
 rintro rfl
 rw [ha] at hb
 have e : s = t := by injection hb with hb; injection hb
 subst e
 exact h (hs.symm.trans ht)
set_option maxRecDepth 100000 in
theorem sents_met {L : List (String × DataW Unit)} {W : World} (hL : laidMetH Tryz.prog L W)
  (fE : L.filter (fun x => x.1 == "errors.errorType") = [("errors.errorType", Rows.laid_errors_errorType)])
  (fK : L.filter (fun x => x.1 == "latch/fault.ErrKeys") = [("latch/fault.ErrKeys", Rows.laid_latch_fault_ErrKeys)])
  (fP : L.filter (fun x => x.1 == "latch/fault.ErrPoint") = [("latch/fault.ErrPoint", Rows.laid_latch_fault_ErrPoint)])
  (fS : L.filter (fun x => x.1 == "latch/fault.ErrScalar") = [("latch/fault.ErrScalar", Rows.laid_latch_fault_ErrScalar)])
  (fG : L.filter (fun x => x.1 == "latch/fault.ErrSign") = [("latch/fault.ErrSign", Rows.laid_latch_fault_ErrSign)]) : ∃ k p s g, Sents W k p s g := by
 obtain ⟨k, sk, hk, ck, ek⟩ := sent_met hL fK (g := 0) (by kernel_rfl) (by kernel_rfl)
 obtain ⟨p, sp, hp, cp, ep⟩ := sent_met hL fP (g := 1) (by kernel_rfl) (by kernel_rfl)
 obtain ⟨s, ss, hs, cs, es⟩ := sent_met hL fS (g := 2) (by kernel_rfl) (by kernel_rfl)
 obtain ⟨g, sg, hg, cg, eg⟩ := sent_met hL fG (g := 4) (by kernel_rfl) (by kernel_rfl)
 exact ⟨k, p, s, g, err_met hL fE, hk, hp, hs, hg, sent_ne cp ck ep ek (by decide), sent_ne cs ck es ek (by decide), sent_ne cs cp es ep (by decide), sent_ne cg ck eg ek (by decide), sent_ne cg cp eg ep (by decide), sent_ne cg cs eg es (by decide)⟩
noncomputable def lowS : Nat := (World.holding Tryz.prog default ⟨#[], #[], []⟩).heap.size
def txK : ByteArray := ⟨#[116, 104, 101, 121, 32, 97, 114, 101, 32, 116, 111, 111, 32, 109, 97, 110, 121, 44, 32, 111, 114, 32, 111, 110, 101, 32, 105, 115, 32, 111, 102, 32, 97, 110, 111, 116, 104, 101, 114, 32, 115, 105, 122, 101]⟩
def txP : ByteArray := ⟨#[105, 116, 32, 105, 115, 32, 110, 111, 32, 112, 111, 105, 110, 116, 39, 115, 32, 99, 111, 100, 101]⟩
def txS : ByteArray := ⟨#[105, 116, 32, 105, 115, 32, 110, 111, 116, 32, 98, 101, 108, 111, 119, 32, 76]⟩
def txG : ByteArray := ⟨#[105, 116, 32, 105, 115, 32, 110, 111, 116, 32, 114, 105, 103, 104, 116]⟩
noncomputable def laidWorldS (os : Os) : World :=
 { laidWorldB os with heap := putR 0 #[esI ⟨lowS, 0, none⟩] (putR 1 #[esI ⟨lowS + 1, 0, none⟩] (putR 2 #[esI ⟨lowS + 2, 0, none⟩] (putR 4 #[esI ⟨lowS + 3, 0, none⟩] (putR 3 #[rtV 66] (putR 6 #[nv 6346243789798364141, nv 1503914060200516822, nv 0, nv 1152921504606846976] (putR 9 (kws.map uv).toArray (laidWorldB os).heap)))))) ++ #[.cells #[.string txK] 301, .cells #[.string txP] 301, .cells #[.string txS] 301, .cells #[.string txG] 301] }
theorem make47 (w : World) : (Instr.makeSlice 89 (.int .i64 47) (.int .i64 47)).run Tryz.prog w = .ok (.slice (some ⟨w.heap.size, 0, none⟩) 47 47) (w.alloc (.cells (zN 47) 5)) := by kernel_rfl
set_option maxRecDepth 100000 in
set_option maxHeartbeats 1000000 in
theorem bytes47 (w : World) :
  Calls Tryz.prog 16 #[.string ⟨#[]⟩, .int .i64 47] w fun e w' => e = .returned (.string (strOf (List.replicate 47 0))) ∧ Below w.heap.size w w' := by
 have hmk := make47
 have hcp := Lib.run_copy_row_string (P := Tryz.prog) (w.alloc (.cells (zN 47) 5)) 89 9 3 5 w.heap.size 0 47 47 ⟨#[]⟩ (zN 47) 5 underSl8 size8K (heap_alloc_new _ _) (by show 0 ≤ 47; omega) (by unfold zN; simp; exact Nat.zero_le _)
 rw [pad_row ⟨#[]⟩ 47 (by decide)] at hcp
 have R1 : Hid (((w.alloc (.cells (zN 47) 5)).setRow w.heap.size ((padB ⟨#[]⟩ 47).map cv).toArray).heap[w.heap.size]? = some (.cells ((padB ⟨#[]⟩ 47).map cv).toArray 5 (0, 0))) := setRow_heap _ _ _ _ _ _ (heap_alloc_new _ _)
 have hcv := convN 47 _ w.heap.size (padB ⟨#[]⟩ 47) (padB_len ⟨#[]⟩ 47) 5 R1.out
 have B1 : Hid (Below w.heap.size w ((w.alloc (.cells (zN 47) 5)).setRow w.heap.size ((padB ⟨#[]⟩ 47).map cv).toArray)) := below_setRow (by show Below _ _ _; go_grown) (Nat.le_refl _) _
 generalize hW1 : World.setRow _ _ _ = W1 at *
 have ep : padB ⟨#[]⟩ 47 = List.replicate 47 0 := rfl
 rw [ep] at hcv
 obtain ⟨T, HT⟩ : ∃ T, Hid (T = strOf (List.replicate 47 0)) := ⟨_, hide rfl⟩
 rw [← HT.out] at hcv ⊢
 clear hW1
 go_enter Tryz.func16, Tryz.ntmps16
 go_wp2_with (at_builtin; refine wpList_copy_to _ rfl _ _ 89 9 rfl _ _ rfl rfl hcp ?_)
 go_returns
 exact ⟨rfl, B1.out⟩
theorem hashHd (s : ByteArray) (w : World) (hK : Tab w) (hs : s.size ≤ maxLen) :
  Calls Tryz.prog 20 #[.string s] w fun e w' => e = .returned (.string (strOf (hashOf (bytesOf s)))) ∧ Below w.heap.size w w' := hash_any s w hK hs
theorem leB4 (n : Nat) : leB n 4 = [byteLE n 0, byteLE n 1, byteLE n 2, byteLE n 3] := by simp [leB, List.range_succ]
theorem C8_byteLE (n j : Nat) : C8 (byteLE n j) = ((n / 256 ^ j % 256 : Nat) : Int) := by unfold C8; rw [byteLE_nat]
set_option maxRecDepth 100000 in
set_option maxHeartbeats 2000000 in
theorem headK (v k : Nat) (p : ByteArray) (hv : v < 4294967296) (hk : k < 256) (hp : p.size ≤ 1000000) (w : World) (hK : Tab w) :
  Calls Tryz.prog 26 #[.int .u32 v, .int .u8 k, .string p] w fun e w' => e = .returned (.string (strOf ([76, 65, 84, 67, 72, 73, 77, 71] ++ leB v 4 ++ leB p.size 4 ++ [UInt8.ofNat k] ++ List.replicate 47 0 ++ hashOf (bytesOf p)))) ∧ Below w.heap.size w w' := by
 have HK := hide hK
 obtain ⟨F, EF⟩ : ∃ F, Hid (F = strOf ([76, 65, 84, 67, 72, 73, 77, 71] ++ leB v 4 ++ leB p.size 4 ++ [UInt8.ofNat k] ++ List.replicate 47 0 ++ hashOf (bytesOf p))) := ⟨_, hide rfl⟩
 rw [← EF.out]
 obtain ⟨l, El⟩ : ∃ l, Hid (l = leB v 4 ++ leB p.size 4 ++ [UInt8.ofNat k]) := ⟨_, hide rfl⟩
 have ll : Hid (l.length = 9) := by show _ = _; rw [El.out]; simp [leB_length]
 have er : (l.map cv).toArray = #[.int .u8 ((v : Int) % 256), .int .u8 ((v : Int) / 256 % 256), .int .u8 ((v : Int) / 65536 % 256), .int .u8 ((v : Int) / 16777216), .int .u8 ((p.size : Int) % 256), .int .u8 ((p.size : Int) / 256 % 256), .int .u8 ((p.size : Int) / 65536), .int .u8 ((p.size : Int) / 16777216), .int .u8 (k : Int)] := by
  rw [El.out, leB4, leB4]
  show #[Value.int .u8 (C8 _), Value.int .u8 (C8 _), Value.int .u8 (C8 _), Value.int .u8 (C8 _), Value.int .u8 (C8 _), Value.int .u8 (C8 _), Value.int .u8 (C8 _), Value.int .u8 (C8 _), Value.int .u8 (C8 _)] = _
  have ek : C8 (UInt8.ofNat k) = (k : Int) := by unfold C8; rw [UInt8.toNat_ofNat', Nat.mod_eq_of_lt (by omega)]
  have e0 : ((v / 256 ^ 0 % 256 : Nat) : Int) = (v : Int) % 256 := by omega
  have e1 : ((v / 256 ^ 1 % 256 : Nat) : Int) = (v : Int) / 256 % 256 := by omega
  have e2 : ((v / 256 ^ 2 % 256 : Nat) : Int) = (v : Int) / 65536 % 256 := by omega
  have e3 : ((v / 256 ^ 3 % 256 : Nat) : Int) = (v : Int) / 16777216 := by omega
  have f0 : ((p.size / 256 ^ 0 % 256 : Nat) : Int) = (p.size : Int) % 256 := by omega
  have f1 : ((p.size / 256 ^ 1 % 256 : Nat) : Int) = (p.size : Int) / 256 % 256 := by omega
  have f2 : ((p.size / 256 ^ 2 % 256 : Nat) : Int) = (p.size : Int) / 65536 := by omega
  have f3 : ((p.size / 256 ^ 3 % 256 : Nat) : Int) = (p.size : Int) / 16777216 := by omega
  rw [C8_byteLE, C8_byteLE, C8_byteLE, C8_byteLE, C8_byteLE, C8_byteLE, C8_byteLE, C8_byteLE, ek, e0, e1, e2, e3, f0, f1, f2, f3]
 have R0 : (w.alloc (.cells (l.map cv).toArray 5)).heap[w.heap.size]? = some (.cells (l.map cv).toArray 5 (0, 0)) := heap_alloc_new _ _
 have hcv := convN 9 _ w.heap.size l ll.out 5 R0
 rw [er] at hcv
 obtain ⟨S, ES⟩ : ∃ S, Hid (S = strOf l) := ⟨_, hide rfl⟩
 have S9 : Hid (S.size = 9) := by show _ = _; rw [ES.out]; exact ll.out
 rw [← ES.out] at hcv
 obtain ⟨M, EM⟩ : ∃ M : ByteArray, Hid (M = ⟨#[76, 65, 84, 67, 72, 73, 77, 71]⟩) := ⟨_, hide rfl⟩
 have hs1 : (⟨#[76, 65, 84, 67, 72, 73, 77, 71]⟩ : ByteArray).size + S.size ≤ 9223372036854775807 := by rw [S9.out]; show 8 + 9 ≤ _; omega
 clear hK R0
 go_enter Tryz.func26, Tryz.ntmps26
 go_wp2_with fail
 generalize hW1 : w.alloc _ = W1 at *
 have B1 : Hid (Below w.heap.size w W1) := by rw [← hW1]; exact (Below.refl _ _).alloc (Nat.le_refl _) _
 rw [← EM.out]
 obtain ⟨A, EA⟩ : ∃ A, Hid (A = M ++ S) := ⟨_, hide rfl⟩
 rw [← EA.out]
 have A17 : Hid (A.size = 17) := by show _ = _; rw [EA.out, ByteArray.size_append, S9.out, EM.out]; rfl
 clear hcv hW1 hs1
 refine (hashHd p W1 (HK.out.below B1.out HK.out.lt) (by unfold maxLen; omega)).mono ?_
 rintro e W2 ⟨rfl, hB⟩
 have B2 := hide (B1.out.trans (hB.mono B1.out.size))
 clear hB B1
 obtain ⟨H, EH⟩ : ∃ H, Hid (H = strOf (hashOf (bytesOf p))) := ⟨_, hide rfl⟩
 have H64 : Hid (H.size = 64) := by show _ = _; rw [EH.out]; exact hashOf_length _
 rw [← EH.out]
 go_wp2_with fail
 refine (bytes47 W2).mono ?_
 rintro e W3 ⟨rfl, hB⟩
 have B3 := hide (B2.out.trans (hB.mono B2.out.size))
 clear hB B2
 obtain ⟨Z, EZ⟩ : ∃ Z, Hid (Z = strOf (List.replicate 47 (0 : UInt8))) := ⟨_, hide rfl⟩
 have Z47 : Hid (Z.size = 47) := by show _ = _; rw [EZ.out]; rfl
 rw [← EZ.out]
 have hs1 : A.size + Z.size ≤ 9223372036854775807 := by rw [A17.out, Z47.out]; decide
 have hs2 : (A ++ Z).size + H.size ≤ 9223372036854775807 := by rw [ByteArray.size_append, A17.out, Z47.out, H64.out]; decide
 go_wp2_with fail
 go_returns
 refine ⟨?_, B3.out⟩
 have e : A ++ Z ++ H = F := by
  rw [EF.out, EA.out, ES.out, EZ.out, EH.out, EM.out, El.out]
  have ap : ∀ a b : List UInt8, strOf a ++ strOf b = strOf (a ++ b) := by
   intro a b
   rw [← strOf_bytesOf (strOf a ++ strOf b)]
   unfold bytesOf
   rw [ByteArray.data_append, Array.toList_append]
   show strOf (bytesOf (strOf a) ++ bytesOf (strOf b)) = _
   rw [bytesOf_strOf, bytesOf_strOf]
  rw [show (⟨#[76, 65, 84, 67, 72, 73, 77, 71]⟩ : ByteArray) = strOf [76, 65, 84, 67, 72, 73, 77, 71] from rfl, ap, ap, ap]
  simp only [List.append_assoc]
 exact congrArg (fun x => Ending.returned (Value.string x)) e
theorem underStrsO : Tryz.prog.underlying 38 = some (.slice 9) := by kernel_rfl
theorem sizeStrO : (Tryz.prog.info? 9).map (·.size) = some 1 := by kernel_rfl
theorem infoStr : (Tryz.prog.info? 9).map (fun i => (i.zero, i.size, i.bytes)) = some (some (.string ⟨#[]⟩), 1, 16) := by kernel_rfl
theorem idxStrG (x : Addr) (n i cap : Nat) (hi : i < n) (w : World) : (Instr.indexAt 38 (.slice (some x) n cap) (.int .i64 i)).run Tryz.prog w = .ok (.pointer (some (x.add i))) w := by
 cases hq : Tryz.prog.info? 9 with
 | none => have := sizeStrO; rw [hq] at this; cases this
 | some inf =>
  have hs : inf.size = 1 := by have := sizeStrO; rw [hq] at this; simpa using this
  simp [Instr.indexAt, asIntOf, run_underlying underStrsO, sizeOf, typeInfo, hq, hs]
  intro h; omega
theorem idxStrO (q n i cap : Nat) (hi : i < n) (w : World) : (Instr.indexAt 38 (.slice (some ⟨q, 0, none⟩) n cap) (.int .i64 i)).run Tryz.prog w = .ok (.pointer (some ⟨q, i, none⟩)) w := by
 have := idxStrG ⟨q, 0, none⟩ n i cap hi w
 rw [Addr.add_mid, Nat.zero_add] at this
 exact this
theorem Own.set1 {w : World} {B : Nat} {e : TypeId} {g n cap : Nat} {xs : List Value} (h : Own w B e (.slice (some ⟨g, 0, none⟩) n cap) xs) (i : Nat) (hi : i < xs.length) (u : Value) :
  Own (w.setCell ⟨g, i, none⟩ u) B e (.slice (some ⟨g, 0, none⟩) n cap) (xs.set i u) ∧ w.frozen? ⟨g, i, none⟩ = false ∧ w.cell? ⟨g, i, none⟩ = xs[i]? ∧ B ≤ g ∧ g < w.heap.size := by
 rcases h with ⟨h, _⟩ | ⟨g', cap', cur, fr, h0, h1, h2, h3, h4, h5, h6, h7⟩
 · cases h
 ·
  simp only [Value.slice.injEq, Option.some.injEq, Addr.mk.injEq, and_true] at h0
  obtain ⟨rfl, rfl, rfl⟩ := h0
  have hc : i < cur.size := by omega
  have hx : xs[i]? = cur[i]? := by
   rw [← h7, List.getElem?_take, if_pos (by omega)]; simp
  refine ⟨.inr ⟨g, cap, cur.setIfInBounds i u, fr, by rw [List.length_set], h1, ?_, ?_, by rw [List.length_set]; exact h4, h5, by simpa using h6, ?_⟩, ?_, ?_, h1, lt_row h2⟩
  · rw [setCell_eq_setRow w g i cur e fr u h2]; exact setRow_heap w g cur _ e fr h2
  · simpa using h3
  · rw [List.length_set, Array.toList_setIfInBounds, List.take_set, h7]
  ·
   simp only [World.frozen?, h2]
   rcases h3 with rfl | h3
   · simp
   · simp; omega
  · rw [cell_of_row w g i cur e fr h2, hx]
theorem Own.below {w w' : World} {B : Nat} {e : TypeId} {v : Value} {xs : List Value} (h : Own w B e v xs) (hb : Below w.heap.size w w') : Own w' B e v xs := by
 refine h.kept (fun g hg => ?_)
 rcases h with ⟨rfl, _⟩ | ⟨g', cap, cur, fr, rfl, _, h2, _⟩
 · cases hg
 ·
  have : g' = g := by simpa [Value.ownBlock] using hg
  subst this
  exact hb.block _ (lt_row h2)
theorem cell_one_new (w : World) (x : Value) (t : TypeId) : ∀ j u, [x][j]? = some u → (w.alloc (.cells #[x] t)).cell? ((⟨w.heap.size, 0, none⟩ : Addr).add j) = some u := by
 intro j u h
 rw [Addr.add_mid, Nat.zero_add, cell_of_row _ _ j _ _ _ (heap_alloc_new _ _)]
 simpa using h
theorem addr_blkS (a : Addr) (n : Nat) : (a.add n).block = a.block := by unfold Addr.add; split <;> rfl
theorem Own.len {w : World} {B : Nat} {e : TypeId} {v : Value} {xs : List Value} (h : Own w B e v xs) : ∃ pt cp, v = .slice pt xs.length cp := by
 rcases h with ⟨rfl, rfl⟩ | ⟨g, cap, _, _, rfl, _⟩
 · exact ⟨_, _, rfl⟩
 · exact ⟨_, _, rfl⟩
theorem sd_facts (l : List UInt8) (h : l.length = 32) : valLE (sdL l) % 8 = 0 ∧ 28948022309329048855892746252171976963317496166410141009864396001978282409984 ≤ valLE (sdL l) ∧ valLE (sdL l) < 57896044618658097711785492504343953926634992332820282019728792003956564819968 := by
 have hl : (sdL l).length = 32 := by rw [sdL_lenP, h]
 have b0 := valLE_byte (sdL l) 0
 have b31 := valLE_byte (sdL l) 31
 have g0 : (sdL l).getD 0 0 = sd0 (l.getD 0 0) := by
  unfold sdL
  simp [List.getD_eq_getElem?_getD, h]
 have g31 : (sdL l).getD 31 0 = sd31 (l.getD 31 0) := by
  unfold sdL
  simp [List.getD_eq_getElem?_getD, h]
 rw [g0, Nat.pow_zero, Nat.div_one] at b0
 rw [g31] at b31
 have u0 := UInt8.toNat_lt (l.getD 0 0)
 have u31 := UInt8.toNat_lt (l.getD 31 0)
 unfold sd0 at b0
 unfold sd31 at b31
 rw [UInt8.toNat_ofNat'] at b0 b31
 have hlt := valLE_lt (sdL l)
 rw [hl] at hlt
 generalize valLE (sdL l) = v at *
 have e31 : (256 : Nat) ^ 31 = 452312848583266388373324160190187140051835877600158453279131187530910662656 := by decide
 have e32 : (256 : Nat) ^ 32 = 115792089237316195423570985008687907853269984665640564039457584007913129639936 := by decide
 rw [e31] at b31
 rw [e32] at hlt
 refine ⟨by omega, ?_, ?_⟩
 ·
  have : 64 ≤ v / 452312848583266388373324160190187140051835877600158453279131187530910662656 := by omega
  omega
 ·
  have : v / 452312848583266388373324160190187140051835877600158453279131187530910662656 < 128 := by omega
  omega
theorem sdN_no (s : ByteArray) : ¬ Lord ∣ sdN s := by
 obtain ⟨h1, h2, h3⟩ := sd_facts ((hashOf (bytesOf s)).take 32) (by rw [List.length_take, hashOf_length]; rfl)
 exact seed_no h1 h2 h3
theorem sdC_G (s : ByteArray) : sdC s = cdG (gMul (sdN s) bG) := code_RP (RP_times RP_bG (sdN_lt s))
theorem sdC_lt (s : ByteArray) : sdC s < 115792089237316195423570985008687907853269984665640564039457584007913129639936 := by rw [sdC_G]; exact cdG_lt _
theorem key_num {s : ByteArray} (h : s.size = 32) : valLE (bytesOf (lkS s)) = sdC s := by
 unfold lkS
 rw [if_pos h, bytesOf_strOf, valLE_leB _ (sdC_lt s)]
theorem RP_dec (a : G) : RP (dcP (cdG a)) a := by
 rw [(dec_code a).2]
 have e : (⟨tau a.x.val, tau a.y.val, by rw [tau_val, tau_val]; exact a.on⟩ : G) = a := G.ext' (tau_val _) (tau_val _)
 have h := RP_of a.x.isLt a.y.isLt (show OnC (tau a.x.val) (tau a.y.val) by rw [tau_val, tau_val]; exact a.on)
 rw [e] at h
 exact h
theorem pvC_G (a : G) (m : ByteArray) (L : List UInt8) (hS : valLE (L.drop 32) < 115792089237316195423570985008687907853269984665640564039457584007913129639936) : pvC (cdG a) m L = cdG (vfG (valLE (L.drop 32)) (pvK (cdG a) m L) a) := by
 unfold pvC
 have hk : pvK (cdG a) m L < 115792089237316195423570985008687907853269984665640564039457584007913129639936 := by unfold pvK; exact Nat.lt_trans (Nat.mod_lt _ (by decide)) (by decide)
 rw [pofF_yes (dec_code a).1]
 exact code_RP (RP_add (RP_times RP_bG hS) (RP_neg (RP_times (RP_dec a) hk)))
theorem lsS_bytes {s : ByteArray} (h : s.size = 32) (m : ByteArray) : bytesOf (lsS s m) = leB (sgC (sdP s) m) 32 ++ leB (sgS (sdN s) (sdC s) (sdP s) m) 32 := by
 unfold lsS; rw [if_pos h, bytesOf_strOf]
theorem ls_take {s : ByteArray} (h : s.size = 32) (m : ByteArray) : (bytesOf (lsS s m)).take 32 = leB (sgC (sdP s) m) 32 := by
 rw [lsS_bytes h, List.take_left' (leB_length _ _)]
theorem ls_drop {s : ByteArray} (h : s.size = 32) (m : ByteArray) : (bytesOf (lsS s m)).drop 32 = leB (sgS (sdN s) (sdC s) (sdP s) m) 32 := by
 rw [lsS_bytes h, List.drop_left' (leB_length _ _)]
theorem modL (n : Nat) : n % Lord < 115792089237316195423570985008687907853269984665640564039457584007913129639936 := Nat.lt_trans (Nat.mod_lt _ (by decide)) (by decide)
theorem sgC_G (p m : ByteArray) : sgC p m = cdG (gMul (sgR p m) bG) := code_RP (RP_times RP_bG (by unfold sgR; exact modL _))
theorem k_own {s : ByteArray} (h : s.size = 32) (m o : ByteArray) : pvK (sdC s) o (bytesOf (lsS s m)) = valLE (hashOf (leB (sgC (sdP s) m) 32 ++ (leB (sdC s) 32 ++ bytesOf o))) % Lord := by
 unfold pvK; rw [ls_take h]
theorem ls_size {s : ByteArray} (h : s.size = 32) (m : ByteArray) : (lsS s m).size = 64 := by
 rw [← bytesOf_length, lsS_bytes h, List.length_append, leB_length, leB_length]
theorem lk_size {s : ByteArray} (h : s.size = 32) : (lkS s).size = 32 := by unfold lkS; rw [if_pos h, strOf_size, leB_length]
theorem verify_own {s : ByteArray} (h : s.size = 32) (m o : ByteArray) : lvE (lkS s) o (lsS s m) = if sgK (sdC s) (sdP s) m = pvK (sdC s) o (bytesOf (lsS s m)) then 0 else 4 := by
 unfold lvE
 have hS : valLE ((bytesOf (lsS s m)).drop 32) = sgS (sdN s) (sdC s) (sdP s) m := by rw [ls_drop h, valLE_leB _ (by unfold sgS; exact modL _)]
 have hR : valLE ((bytesOf (lsS s m)).take 32) = sgC (sdP s) m := by rw [ls_take h, valLE_leB _ (by rw [sgC_G]; exact cdG_lt _)]
 rw [if_pos ⟨lk_size h, ls_size h m⟩, key_num h, hS, hR, if_pos (by rw [sdC_G]; exact (dec_code _).1), if_pos (show sgS (sdN s) (sdC s) (sdP s) m < Lord by unfold sgS; exact Nat.mod_lt _ (by decide))]
 have e : pvC (sdC s) o (bytesOf (lsS s m)) = cdG (vfG (sgS (sdN s) (sdC s) (sdP s) m) (pvK (sdC s) o (bytesOf (lsS s m))) (gMul (sdN s) bG)) := by
  have := pvC_G (gMul (sdN s) bG) o (bytesOf (lsS s m)) (by rw [hS]; unfold sgS; exact modL _)
  rw [← sdC_G, hS] at this
  exact this
 rw [e, sgC_G]
 have iff : vfG (sgS (sdN s) (sdC s) (sdP s) m) (pvK (sdC s) o (bytesOf (lsS s m))) (gMul (sdN s) bG) = gMul (sgR (sdP s) m) bG ↔ sgK (sdC s) (sdP s) m = pvK (sdC s) o (bytesOf (lsS s m)) := sig_iff (a := sdN s) (r := sgR (sdP s) m) (k := sgK (sdC s) (sdP s) m) (k' := pvK (sdC s) o (bytesOf (lsS s m))) (sdN_no s) (by unfold sgK; exact Nat.mod_lt _ (by decide)) (by unfold pvK; exact Nat.mod_lt _ (by decide))
 by_cases c : sgK (sdC s) (sdP s) m = pvK (sdC s) o (bytesOf (lsS s m))
 · rw [if_pos c, if_pos (congrArg cdG (iff.2 c))]
 · rw [if_neg c, if_neg (fun hh => c (iff.1 (cdG_injS hh)))]
theorem verify_self {s : ByteArray} (h : s.size = 32) (m : ByteArray) : lvE (lkS s) m (lsS s m) = 0 := by
 rw [verify_own h, if_pos (by rw [k_own h]; rfl)]
theorem underCodesN : Tryz.prog.underlying 116 = some (.slice 62) := by kernel_rfl
theorem buildCode (m : Nat) (w : World) : (Instr.buildSlice 116 1 #[(0, .agg (bA m))]).run Tryz.prog w = .ok (.slice (some ⟨w.heap.size, 0, none⟩) 1 1) (w.alloc (.cells (bA m) 62)) := by kernel_rfl
theorem infoCode : (Tryz.prog.info? 62).map (fun i => (i.zero, i.size, i.bytes)) = some (some (.agg (bA 0)), 32, 32) := by kernel_rfl
theorem wpList_bs_to {P : Program} (w : World) {ops : Array Oper} {rest : List Oper} {o : Oper} {a : Act} {Q : Exit → Act → World → Prop} (hgd : o.guard = none) (t : TypeId) (n : Nat) (x : Operand)
  (ho : o.op = .buildSlice t n #[(0, x)]) (u : Value) (hx : a.eval x = u) {v' : Value} {w' : World}
  (hr : (Instr.buildSlice t n #[(0, u)]).run P w = .ok v' w') (h : wpList P ops Q rest (a.put o.dst v') w') : wpList P ops Q (o :: rest) a w := by
 refine wpList_plain hgd fun K hK => ?_
 unfold Oper.wp execOp
 simp only [ho, Sem.run_bind, Sem.run_pure, Result.andThen_ok, List.map_toArray, List.map_cons, List.map_nil, hx, hr]
 exact hK _ _ h
def StrsAt (w : World) (q : Nat) (keys : List ByteArray) : Prop := ∀ i (h : i < keys.length), w.cell? ⟨q, i, none⟩ = some (.string keys[i])
theorem StrsAt.below {w w' : World} {B q : Nat} {keys : List ByteArray} (h : StrsAt w q keys) (hb : Below B w w') (hq : q < B) : StrsAt w' q keys := fun i hi => (hb.cell (by exact hq)).trans (h i hi)
theorem underStrs : Tryz.prog.underlying 38 = some (.slice 9) := by kernel_rfl
theorem sizeStr1 : (Tryz.prog.info? 9).map (·.size) = some 1 := by kernel_rfl
theorem idxStrs (q n i cap : Nat) (hi : i < n) (w : World) : (Instr.indexAt 38 (.slice (some ⟨q, 0, none⟩) n cap) (.int .i64 i)).run Tryz.prog w = .ok (.pointer (some ⟨q, i, none⟩)) w := by
 cases hq : Tryz.prog.info? 9 with
 | none => have := sizeStr1; rw [hq] at this; cases this
 | some inf =>
  have hs : inf.size = 1 := by have := sizeStr1; rw [hq] at this; simpa using this
  simp [Instr.indexAt, asIntOf, run_underlying underStrs, sizeOf, typeInfo, hq, hs, Addr.add_mid]
  intro h; omega
def nums (keys : List ByteArray) : List Nat := keys.map fun k => valLE (bytesOf k)
def cellsOf (ks : List Nat) : List Value := ks.flatMap bL
theorem bL_len (n : Nat) : (bL n).length = 32 := by unfold bL; rw [List.length_map, leB_length]
theorem cellsOf_snoc (ks : List Nat) (m : Nat) : cellsOf (ks ++ [m]) = cellsOf ks ++ bL m := by unfold cellsOf; simp
theorem cellsOf_at : ∀ (ks : List Nat) (i : Nat) (h : i < ks.length) (j : Nat) (v : Value), (bL ks[i])[j]? = some v → (cellsOf ks)[32 * i + j]? = some v
 | a :: l, 0, _, j, v, hv => by
  have hj : j < (bL a).length := (List.getElem?_eq_some_iff.1 hv).1
  show (bL a ++ cellsOf l)[32 * 0 + j]? = _
  rw [Nat.mul_zero, Nat.zero_add, List.getElem?_append_left hj]
  exact hv
 | a :: l, i + 1, h, j, v, hv => by
  show (bL a ++ cellsOf l)[32 * (i + 1) + j]? = _
  rw [List.getElem?_append_right (by rw [bL_len]; omega), bL_len, show 32 * (i + 1) + j - 32 = 32 * i + j by omega]
  exact cellsOf_at l i (by simpa using h) j v (by simpa using hv)
theorem keysAt_of {w : World} {B : Nat} {kv : Value} {ks : List Nat} (h : w.ownsRow B 62 32 kv ks.length (cellsOf ks)) : KeysAt w kv ks ∧ ∀ q, kv.ownBlock = some q → B ≤ q := by
 obtain ⟨_, ⟨rfl, h0⟩ | ⟨g, cap, cur, rfl, h1, h2, h3, h4, h5, h6⟩⟩ := h
 · exact ⟨.inl ⟨rfl, List.eq_nil_of_length_eq_zero h0⟩, fun q hq => by cases hq⟩
 ·
  refine ⟨.inr ⟨g, cap, rfl, h3, h4, lt_row h2, ?_⟩, fun q hq => ?_⟩
  ·
   intro i hi j v hv
   have hj : j < 32 := by have := (List.getElem?_eq_some_iff.1 hv).1; rw [bL_len] at this; exact this
   have e := cellsOf_at ks i hi j v hv
   rw [← h6, List.getElem?_take, if_pos (by omega)] at e
   rw [cell_of_row w g _ cur _ _ h2]
   simpa using e
  · simp [Value.ownBlock] at hq; omega
theorem nums_take (keys : List ByteArray) (i : Nat) (h : i < keys.length) : nums (keys.take (i + 1)) = nums (keys.take i) ++ [valLE (bytesOf keys[i])] := by
 unfold nums
 rw [List.take_succ_eq_append_getElem h, List.map_append]
 rfl
theorem bL_cells (n : Nat) : ∀ u ∈ bL n, u.oneCell' = true := by unfold bL; exact bytes_cell _
section
attribute [local irreducible] bA bL
set_option maxRecDepth 100000 in
set_option maxHeartbeats 4000000 in
theorem codesOf_any (keys : List ByteArray) (h4 : keys.length ≤ 4) (h32 : ∀ k ∈ keys, k.size = 32) (q cap : Nat) (w : World) (hS : StrsAt w q keys) (hq : q < w.heap.size) :
  Calls Tryz.prog 88 #[.slice (some ⟨q, 0, none⟩) keys.length cap] w fun e w' => ∃ kv, e = .returned (.tuple #[kv, .bool true]) ∧ Below w.heap.size w w' ∧ KeysAt w' kv (nums keys) ∧ ∀ x, kv.ownBlock = some x → w.heap.size ≤ x ∧ x < w'.heap.size := by
 have HS := hide hS
 have H32 := hide h32
 obtain ⟨i0, HI0, HZ⟩ : ∃ i, Hid (Tryz.prog.info? 62 = some i) ∧ Hid (i.zero = some (.agg (bA 0)) ∧ i.size = 32 ∧ i.bytes = 32) := by
  have e := infoCode
  cases hi : Tryz.prog.info? 62 with
  | none => rw [hi] at e; cases e
  | some i => rw [hi] at e; simp at e; exact ⟨i, rfl, e.1, e.2.1, e.2.2⟩
 have b4 : (keys.length : Int) ≤ 4 := by omega
 clear hS h32
 have ha1 := arrCode
 go_enter Tryz.func88, Tryz.ntmps88
 go_wp2_with fail
 go_loopw [4, 12] (fun u v wr => ∃ i : Nat, i ≤ keys.length ∧ v = .int .i64 i ∧ Hid (wr.ownsRow w.heap.size 62 32 u i (cellsOf (nums (keys.take i)))) ∧ Hid (Below w.heap.size w wr)) (fun _ v _ => keys.length - (intOf v).toNat)
 case atStart => exact ⟨0, by omega, rfl, hide (World.ownsRow_nil _ _ _ _), hide (Below.refl _ _)⟩
 case round =>
  obtain ⟨i, hi, rfl, HR, HB⟩ := hrel
  by_cases hlt : i < keys.length
  ·
   have bi : (i : Int) < (keys.length : Int) := by omega
   have hix := idxStrs q keys.length i cap hlt
   obtain ⟨K, EK⟩ : ∃ K, Hid (K = keys[i]) := ⟨_, hide rfl⟩
   have K32 : Hid (K.size = 32) := by rw [EK.out]; exact H32.out _ (List.getElem_mem hlt)
   have hK : (K.size : Int) = 32 := by rw [K32.out]; rfl
   have c1 : wr.cell? ⟨q, i, none⟩ = some (.string K) := by rw [EK.out]; exact (HB.out.cell hq).trans (HS.out i hlt)
   obtain ⟨m, Em⟩ : ∃ m, Hid (m = valLE (bytesOf K)) := ⟨_, hide rfl⟩
   obtain ⟨cp, W1, hcv, hR, hB, hSz⟩ := conv_bytes 9 89 5 underStr underSl8 underU8 K wr
   rw [K32.out] at hcv
   have lk : (bytesOf K).length = 32 := by rw [bytesOf_length, K32.out]
   obtain ⟨z, hz⟩ : ∃ z, z = wr.heap.size := ⟨_, rfl⟩
   rw [← hz] at hcv hR
   clear hz
   obtain ⟨M1, EM1⟩ : ∃ M, Hid (M = (bytesOf K).map cv) := ⟨_, hide rfl⟩
   rw [← EM1.out] at hR
   have R1 := hide hR
   have HM1 : Hid ((Tryz.prog.info? 62).map (·.size) = some M1.length) := by show _ = _; rw [sizeCode, EM1.out, List.length_map, lk]
   have EB1 : M1.toArray = bA m := by rw [EM1.out, Em.out]; exact half_bA _ lk
   have HR1 : Hid (W1.ownsRow w.heap.size 62 32 u4 i (cellsOf (nums (keys.take i)))) := by
    obtain ⟨e1, ⟨rfl, e2⟩ | ⟨g, cap, cur, rfl, e2, e3, e4⟩⟩ := HR.out
    · exact ⟨e1, .inl ⟨rfl, e2⟩⟩
    · exact ⟨e1, .inr ⟨g, cap, cur, rfl, e2, (hB.block g (lt_row e3)).trans e3, e4⟩⟩
   have B1 := kTr HB hB
   have hbs := buildCode m W1
   have HR2 : Hid ((W1.alloc (.cells (bA m) 62)).ownsRow w.heap.size 62 32 u4 i (cellsOf (nums (keys.take i)))) := by
    obtain ⟨e1, ⟨rfl, e2⟩ | ⟨g, cap, cur, rfl, e2, e3, e4⟩⟩ := HR1.out
    · exact ⟨e1, .inl ⟨rfl, e2⟩⟩
    · exact ⟨e1, .inr ⟨g, cap, cur, rfl, e2, (heap_alloc_old _ _ (lt_row e3)).trans e3, e4⟩⟩
   have hsz := B1.out.size
   clear hR hB hSz HR
   go_wp2_with (first
    | (refine wpList_load_mid (by rfl) 62 (.tmp 22) (by rfl) z 0 (by rfl) M1 _ R1.out underCode rfl HM1.out ?_; rw [EB1])
    | (refine wpList_bs_to _ (by rfl) 116 1 (.tmp 23) (by rfl) (.agg (bA m)) (by rfl) hbs ?_)
    | (at_builtin; refine wpList_append_own _ (by rfl) (.tmp 19) (.tmp 24) 116 (by rfl) w.heap.size 62 i0 (.agg (bA 0)) 32 32 underCodesN HI0.out HZ.out.1 HZ.out.2.1 HZ.out.2.2 (by exact bA_len 0) (by decide) u4 i _ (by rfl) HR2.out ⟨W1.heap.size, 0, none⟩ 1 1 (bL m) (by rfl) (by rw [bL_len]) (fun j v hv => by rw [Addr.add_mid, Nat.zero_add, cell_of_row _ _ j _ _ _ (heap_alloc_new _ _), ← bL_A, List.getElem?_toArray]; exact hv) (bL_cells m) (by unfold maxLen; omega) (by omega) (by simp; omega) ?_; intro v1 W2 hO2 hG2 _))
   refine ⟨⟨i + 1, by omega, by go_num, ?_, ?_⟩, by simp [intOf]; omega⟩
   ·
    rw [nums_take keys i hlt, cellsOf_snoc, ← EK.out, ← Em.out]
    exact hO2
   · exact (B1.out.alloc hsz _).grown hG2 (by simp; omega) (fun k hk => (HR2.out.lt k hk).1)
  ·
   obtain rfl : i = keys.length := by omega
   rw [List.take_length] at HR
   have ln : (nums keys).length = keys.length := by unfold nums; rw [List.length_map]
   have hR := HR.out
   rw [← ln] at hR
   have fin := keysAt_of hR
   have flt := hR.lt
   clear hR HR
   have FK := hide fin
   have FL := hide flt
   clear fin flt
   go_wp2_with fail
   go_returns
   exact ⟨_, rfl, HB.out, FK.out.1, fun x hx => ⟨FK.out.2 x hx, (FL.out x hx).2⟩⟩
end
theorem zeroLd (w : World) : (zeroValue 119).run Tryz.prog w = .ok (.agg #[.slice none 0 0, .int .u32 0, .pointer none, .map none]) w := by kernel_rfl
theorem sizeLd : (Tryz.prog.info? 119).map (·.size) = some 4 := by kernel_rfl
theorem meA_nil (b : Nat) : meA b [] = #[] := rfl
structure New1 (w w' : World) (kv : Value) (ks : List Nat) (b r : Nat) : Prop where
 be : Below w.heap.size w w'
 keys : KeysAt w' kv ks
 own : ∀ x, kv.ownBlock = some x → w.heap.size ≤ x ∧ x < w'.heap.size ∧ x ≠ b ∧ x ≠ r
 b0 : w.heap.size ≤ b
 r0 : w.heap.size ≤ r
 br : b ≠ r
 base : w'.heap[b]? = some (.cells baseZ 86 (0, 0))
 map : w'.heap[r]? = some (.map #[] 0)
section
attribute [local irreducible] bA bL baseZ
set_option maxRecDepth 100000 in
set_option maxHeartbeats 4000000 in
theorem ldNew_any (keys : List ByteArray) (h4 : keys.length ≤ 4) (h32 : ∀ k ∈ keys, k.size = 32) (q cap : Nat) (v : Int) (w : World) (hS : StrsAt w q keys) (hq : q < w.heap.size) :
  Calls Tryz.prog 53 #[.slice (some ⟨q, 0, none⟩) keys.length cap, .int .u32 v] w fun e w' => ∃ pt n cp b r, e = .returned (.tuple #[.agg (ldA (.slice pt n cp) v b r), .nilIface]) ∧ New1 w w' (.slice pt n cp) (nums keys) b r := by
 have hz := zeroLd
 have hzb := zeroBase
 obtain ⟨W0, hW0⟩ : ∃ W, W = w.alloc (.cells #[.slice none 0 0, .int .u32 0, .pointer none, .map none] 119) := ⟨_, rfl⟩
 have B0 : Below w.heap.size w W0 := by rw [hW0]; exact (Below.refl _ _).alloc (Nat.le_refl _) _
 have R0 : Hid (W0.heap[w.heap.size]? = some (.cells #[.slice none 0 0, .int .u32 0, .pointer none, .map none] 119 (0, 0))) := by rw [hW0]; exact heap_alloc_new _ _
 have H1 := hide (codesOf_any keys h4 h32 q cap W0 (hS.below B0 hq) (Nat.lt_of_lt_of_le hq B0.size))
 have HB0 := hide B0
 have ls := B0.size
 rw [hW0] at H1
 clear hS h4 h32 B0
 go_enter Tryz.func53, Tryz.ntmps53
 go_wp2_with fail
 refine H1.out.mono ?_
 rintro e W1 ⟨kv, rfl, hB, hK, hO⟩
 rw [← hW0] at hB hO
 have B1 := hide (HB0.out.trans (hB.mono ls))
 have R1 := hide (row_keep' R0.out hB)
 have lW := hB.size
 clear hB H1 R0 HB0
 obtain ⟨pt, n, cp, hkv⟩ : ∃ pt n cp, kv = .slice pt n cp := by
  rcases hK with ⟨rfl, _⟩ | ⟨q', cap', rfl, _⟩
  · exact ⟨_, _, _, rfl⟩
  · exact ⟨_, _, _, rfl⟩
 subst hkv
 have HK := hide hK
 have HO := hide hO
 clear hK hO
 have hmm : ∀ w : World, (Instr.makeMap 117 none).run Tryz.prog w = .ok (.map (some w.heap.size)) (w.alloc (.map #[] 0)) := fun w => rfl
 have B2 : Hid (Below w.heap.size w ((W1.alloc (.cells baseZ 86)).alloc (.map #[] 0))) := (B1.out.alloc B1.out.size _).alloc (Nat.le_trans B1.out.size (by simp)) _
 have K2 : Hid (Below W1.heap.size W1 ((W1.alloc (.cells baseZ 86)).alloc (.map #[] 0))) := by show Below _ _ _; go_grown
 have RB : Hid (((W1.alloc (.cells baseZ 86)).alloc (.map #[] 0)).heap[W1.heap.size]? = some (.cells baseZ 86 (0, 0))) := (heap_alloc_old _ _ (by simp)).trans (heap_alloc_new _ _)
 have RM : Hid (((W1.alloc (.cells baseZ 86)).alloc (.map #[] 0)).heap[W1.heap.size + 1]? = some (.map #[] 0)) := heap_alloc2_new _ _ _
 have R2 : Hid (((W1.alloc (.cells baseZ 86)).alloc (.map #[] 0)).heap[w.heap.size]? = some (.cells #[.slice none 0 0, .int .u32 0, .pointer none, .map none] 119 (0, 0))) := row_keep' R1.out K2.out
 have l1 := lt_row R1.out
 go_wp2_with (first
  | (refine wpList_store_row (by rfl) 119 (.tmp 4) (.tmp 23) (by rfl) w.heap.size #[.slice pt n cp, .int .u32 v, .pointer (some ⟨W1.heap.size, 0, none⟩), .map (some (W1.heap.size + 1))] (by rfl) (by rfl) 119 _ R2.out (by rw [sizeLd]; rfl) rfl (by simp [Value.oneCell']) ?_))
 generalize hW2 : (W1.alloc (.cells baseZ 86)).alloc (.map #[] 0) = W2 at *
 have ob : ∀ k, k ≠ w.heap.size → (W2.setRow w.heap.size #[.slice pt n cp, .int .u32 v, .pointer (some ⟨W1.heap.size, 0, none⟩), .map (some (W1.heap.size + 1))]).heap[k]? = W2.heap[k]? := fun k hk => setRow_other _ _ _ _ hk
 have hs : (W2.setRow w.heap.size #[.slice pt n cp, .int .u32 v, .pointer (some ⟨W1.heap.size, 0, none⟩), .map (some (W1.heap.size + 1))]).heap.size = W2.heap.size := by simp [World.setRow]
 have l2 := K2.out.size
 have ow : ∀ x, (Value.slice pt n cp).ownBlock = some x → w.heap.size < x ∧ x < W1.heap.size := fun x hx => by
  have h := HO.out x hx
  have h2 : W0.heap.size = w.heap.size + 1 := by rw [hW0]; simp
  omega
 refine bodyPost_ret (v := .tuple #[.agg #[.slice pt n cp, .int .u32 v, .pointer (some ⟨W1.heap.size, 0, none⟩), .map (some (W1.heap.size + 1))], .nilIface]) (results_cell_tmp_row Tryz.results53 _ _ (w.heap.size) 119 _ (0, 0) _ (by rfl) (setRow_heap _ _ _ _ _ _ R2.out) Tryz.underlying119 rfl (by rw [sizeLd]; rfl)) rfl ⟨pt, n, cp, W1.heap.size, W1.heap.size + 1, rfl, below_setRow B2.out (Nat.le_refl _) _, HK.out.kept (by omega) (fun x hx => (ob x (by have := ow x hx; omega)).trans (K2.out.block x (ow x hx).2)), fun x hx => by have := ow x hx; omega, by omega, by omega, by omega, (ob _ (by omega)).trans RB.out, (ob _ (by omega)).trans RM.out⟩
set_option maxRecDepth 100000 in
set_option maxHeartbeats 4000000 in
theorem latchNew_any (keys : List ByteArray) (h4 : keys.length ≤ 4) (h32 : ∀ k ∈ keys, k.size = 32) (q cap : Nat) (v : Int) (v0 : 0 ≤ v) (v1 : v < 4294967296) (w : World) (hS : StrsAt w q keys) (hq : q < w.heap.size) :
  Calls Tryz.prog 25 #[.slice (some ⟨q, 0, none⟩) keys.length cap, .int .u32 v] w fun e w' => ∃ g kv b r, e = .returned (.tuple #[.pointer (some ⟨g, 0, none⟩), .int .i64 0]) ∧ Below w.heap.size w w' ∧ Ld w' g 121 kv (nums keys) v b r [] 0 ∧ w.heap.size ≤ g ∧ w.heap.size ≤ b ∧ w.heap.size ≤ r ∧ ∀ x, kv.ownBlock = some x → w.heap.size ≤ x := by
 have hz := zeroLd
 have H1 := hide (ldNew_any keys h4 h32 q cap v w hS hq)
 have sm : Hid (∀ k ∈ nums keys, k < big) := by
  intro k hk
  obtain ⟨x, hx, rfl⟩ := List.mem_map.1 hk
  exact valLE_lt32P _ (by rw [bytesOf_length]; exact h32 x hx)
 clear hS hq h4 h32
 go_enter Tryz.func25, Tryz.ntmps25
 go_wp2_with fail
 refine H1.out.mono ?_
 rintro e W1 ⟨pt, n, cp, b, r, rfl, hN⟩
 have HN := hide hN
 clear hN H1
 rw [show ldA (.slice pt n cp) v b r = #[.slice pt n cp, .int .u32 v, .pointer (some ⟨b, 0, none⟩), .map (some r)] from rfl]
 go_upto_region 2 with (first
  | (refine wpList_store_row (by rfl) 119 (.tmp 6) (.tmp 12) (by rfl) W1.heap.size #[.slice pt n cp, .int .u32 v, .pointer (some ⟨b, 0, none⟩), .map (some r)] (by rfl) (by rfl) 119 _ (heap_alloc_new _ _) (by rw [sizeLd]; rfl) rfl (by simp [Value.oneCell']) ?_))
 try rw [put_none']
 generalize hW2 : World.setRow _ _ _ = W2
 have K2 : Hid (Below W1.heap.size W1 W2) := by rw [← hW2]; exact below_setRow ((Below.refl _ _).alloc (Nat.le_refl _) _) (Nat.le_refl _) _
 obtain ⟨g6, hg6⟩ : ∃ q, q = W1.heap.size := ⟨_, rfl⟩
 have R6 : Hid (W2.heap[g6]? = some (.cells #[.slice pt n cp, .int .u32 v, .pointer (some ⟨b, 0, none⟩), .map (some r)] 119 (0, 0))) := by rw [← hW2, hg6]; exact setRow_heap _ _ _ _ _ _ (heap_alloc_new _ _)
 have l2 : W1.heap.size < W2.heap.size := by have := lt_row R6.out; omega
 rw [← hg6]
 clear hW2 hg6
 go_wp2_with (first
  | (refine wpList_load_row (by rfl) 119 (.tmp 6) (by rfl) g6 (by rfl) _ #[.slice pt n cp, .int .u32 v, .pointer (some ⟨b, 0, none⟩), .map (some r)] (0, 0) _ R6.out Tryz.underlying119 rfl (by rw [sizeLd]; rfl) ?_))
 go_returns
 have K3 : Below W1.heap.size W1 (W2.alloc (.cells #[.slice pt n cp, .int .u32 v, .pointer (some ⟨b, 0, none⟩), .map (some r)] 121)) := K2.out.alloc K2.out.size _
 have h := HN.out
 have lb := lt_row h.base
 have lr := lt_row h.map
 have ls := h.be.size
 refine ⟨W2.heap.size, .slice pt n cp, b, r, rfl, h.be.trans (K3.mono ls), ⟨by exact heap_alloc_new _ _, h.keys.kept K3.size (fun x hx => K3.block x (h.own x hx).2.1), sm.out, Or.inl (baseZ_new ((K3.block b lb).trans h.base)), by rw [meA_nil]; exact (K3.block r lr).trans h.map, (fun x hx => by cases hx), v0, v1, by omega, by omega, h.br, fun x hx => ?_⟩, by omega, h.b0, h.r0, fun x hx => (h.own x hx).1⟩
 have := h.own x hx
 exact ⟨by omega, this.2.2.1, this.2.2.2⟩
end
theorem hashS (s : ByteArray) (w : World) (hK : Tab w) (hs : s.size ≤ maxLen) :
  Calls Tryz.prog 20 #[.string s] w fun e w' => e = .returned (.string (strOf (hashOf (bytesOf s)))) ∧ Below w.heap.size w w' := hash_any s w hK hs
theorem sadd_size (a b : ByteArray) : (a ++ b).size = a.size + b.size := by
 rw [ByteArray.size_append]
theorem sadd_bytes (a b : ByteArray) : bytesOf (a ++ b) = bytesOf a ++ bytesOf b := by
 unfold bytesOf; rw [ByteArray.data_append, Array.toList_append]
theorem str_nebS {a b : ByteArray} (h : a ≠ b) : (a.toList == b.toList) = false := by
 rw [beq_eq_false_iff_ne]
 intro e
 rw [ByteArray.toList_eq, ByteArray.toList_eq] at e
 exact h (by rw [← strOf_bytesOf a, ← strOf_bytesOf b]; exact congrArg strOf e)
theorem str_eqbS {a b : ByteArray} (h : a = b) : (a.toList == b.toList) = true := by rw [h]; exact beq_self_eq_true _
theorem hrunLVer {a : Act} {o : Oper} (x y z : Operand) (ho : o.op = .call { callee := .value (.func 13), args := #[x, y, z], argTypes := #[9, 9, 9] }) (v1 v2 v3 : Value) (hx : a.eval x = v1) (hy : a.eval y = v2) (hz : a.eval z = v3) (w : World) :
  (execOp a.eval o).run Tryz.prog w = .ok (.enter 13 #[v1, v2, v3]) w := by
 unfold execOp
 simp only [ho]
 subst hx hy hz
 go_simp
theorem verN (ky m g : ByteArray) (hm : m.size ≤ maxLen) (n : Int) (hn : lvE ky m g = n) (w : World) (k p s gA : Addr) (hG : GlB w) (hK : Tab w) (hO : OrdAt w) (hS : Sents w k p s gA) :
  Calls Tryz.prog 13 #[.string ky, .string m, .string g] w fun e w' => e = .returned (.int .i64 n) ∧ Below w.heap.size w w' := by rw [← hn]; exact latchVerifyA ky m g hm w k p s gA hG hK hO hS
end Go.Proofs.YtccgfabojbjmjaaGreatDoor
