import Derived.Test.YtccgfabojbjmjaaGreatDoorVe32
import Derived.Laws.CopyOwn
namespace Go.Proofs.YtccgfabojbjmjaaGreatDoor
open Go.ChangeShapes Go.WideShapes Go.ChangeAt Go.RowKit
theorem el_met {L : List (String × DataW Unit)} {W : World} {nm : String} {lay : DataW Unit} {g : Nat} {zs : List Int} {n : Nat} (hL : laidMetH Tryz.prog L W) (hf : L.filter (fun x => x.1 == nm) = [(nm, lay)]) (hg : Tryz.prog.globalNamed nm = some g) (ht : (Tryz.prog.globals[g]?).map (·.type) = some 80) (hl : lay = Lib.tabData .u64 zs) (hn : (zs.map fun z => Value.int .u64 z).toArray = num4A n) : ∃ T fr, W.heap[g]? = some (.cells (num4A n) T fr) := by
 have h1 : laidMetH Tryz.prog (L.filter (fun x => x.1 == nm)) W := laidMetH.filter (fun x => x.1 == nm) hL
 rw [hf, hl] at h1
 exact el_row hg hn (Lib.tabIs_of_head (rest := []) hg ht under33 underU64 cells64 cellsEl h1)
theorem gvC : Tryz.prog.globalNamed "latch/curve.baseCode" = some 7 := by kernel_rfl
theorem gtC : (Tryz.prog.globals[7]?).map (·.type) = some 62 := by kernel_rfl
theorem cellsCode : Tryz.prog.cellsOf 62 = 32 := by kernel_rfl
theorem cellsU8 : Tryz.prog.cellsOf 5 = 1 := by kernel_rfl
theorem underCode32 : Tryz.prog.underlying 62 = some (.array 32 5) := by kernel_rfl
def intsC : List Int := [88, 102, 102, 102, 102, 102, 102, 102, 102, 102, 102, 102, 102, 102, 102, 102, 102, 102, 102, 102, 102, 102, 102, 102, 102, 102, 102, 102, 102, 102, 102, 102]
theorem laidC : (Rows.laid_latch_curve_baseCode : DataW Unit) = Lib.tabData .u8 intsC := by kernel_rfl
theorem numC : (intsC.map fun z => Value.int .u8 z).toArray = bA bcN := by kernel_rfl
theorem code_met {L : List (String × DataW Unit)} {W : World} (hL : laidMetH Tryz.prog L W) (hf : L.filter (fun x => x.1 == "latch/curve.baseCode") = [("latch/curve.baseCode", Rows.laid_latch_curve_baseCode)]) : ∃ T fr, W.heap[7]? = some (.cells (bA bcN) T fr) := by
 have h1 : laidMetH Tryz.prog (L.filter (fun x => x.1 == "latch/curve.baseCode")) W := laidMetH.filter (fun x => x.1 == "latch/curve.baseCode") hL
 rw [hf, laidC] at h1
 have t := Lib.tabIs_of_head (rest := []) gvC gtC underCode32 under8' cellsU8 cellsCode h1
 unfold Lib.TabIs World.var? at t
 rw [gvC] at t
 simp only [Option.bind_some] at t
 split at t
 ·
  rename_i cs ty fr h
  refine ⟨ty, fr, h.trans ?_⟩
  rw [Option.some.inj t, ← numC]
 · cases t
theorem glB_of {L : List (String × DataW Unit)} {W : World} (h : laidMetH Tryz.prog L W)
  (fM : L.filter (fun x => x.1 == "latch/field.modulus") = [("latch/field.modulus", Rows.laid_latch_field_modulus)])
  (fR : L.filter (fun x => x.1 == "latch/field.rootOfMinusOne") = [("latch/field.rootOfMinusOne", Rows.laid_latch_field_rootOfMinusOne)])
  (fC : L.filter (fun x => x.1 == "latch/curve.baseCode") = [("latch/curve.baseCode", Rows.laid_latch_curve_baseCode)])
  (fO : L.filter (fun x => x.1 == "latch/curve.one") = [("latch/curve.one", Rows.laid_latch_curve_one)])
  (fD : L.filter (fun x => x.1 == "latch/curve.d") = [("latch/curve.d", Rows.laid_latch_curve_d)])
  (fT : L.filter (fun x => x.1 == "latch/curve.twoD") = [("latch/curve.twoD", Rows.laid_latch_curve_twoD)]) : GlB W :=
 ⟨⟨el_met h fT gvT gtT laidT numT, el_met h fO gvO gtO laidO numO, el_met h fM gvM gtM laidM numM, el_met h fD gvD gtD laidD numD, el_met h fR gvR gtR laidR numR⟩, code_met h fC⟩
noncomputable def laidWorldB (os : Os) : World :=
 { laidWorldA os with heap := putR 7 (intsC.map fun z => Value.int .u8 z).toArray (laidWorldA os).heap }
theorem slice64_from (b : Nat) (w : World) :
  (Instr.sliceAt 102 (.pointer (some ⟨b, 0, none⟩)) (some (.int .i64 32)) none none).run Tryz.prog w = .ok (.slice (some ⟨b, 32, none⟩) 32 32) w := by
 cases hq : Tryz.prog.info? 5 with
 | none => have := sizeU8; rw [hq] at this; cases this
 | some i =>
  have hb : (Instr.sliceBound (.int .i64 32) 64 .sliceB).run Tryz.prog w = .ok 32 w := rfl
  have hs : i.size = 1 := by have := sizeU8; rw [hq] at this; simpa using this
  simp [Instr.sliceAt, Instr.sureAddr, run_underlying under64, Instr.sliceBounds, sizeOf, typeInfo, hq, hs, Addr.add, hb]
theorem slice64_to (b : Nat) (w : World) :
  (Instr.sliceAt 102 (.pointer (some ⟨b, 0, none⟩)) none (some (.int .i64 32)) none).run Tryz.prog w = .ok (.slice (some ⟨b, 0, none⟩) 32 64) w := by
 cases hq : Tryz.prog.info? 5 with
 | none => have := sizeU8; rw [hq] at this; cases this
 | some i =>
  have hb : (Instr.sliceBound (.int .i64 32) 64 .sliceAlen).run Tryz.prog w = .ok 32 w := rfl
  simp [Instr.sliceAt, Instr.sureAddr, run_underlying under64, Instr.sliceBounds, sizeOf, typeInfo, hq, Addr.add, hb]
theorem sliceCode_all (b o : Nat) (w : World) :
  (Instr.sliceAt 62 (.pointer (some ⟨b, o, none⟩)) none none none).run Tryz.prog w = .ok (.slice (some ⟨b, o, none⟩) 32 32) w := by
 cases hq : Tryz.prog.info? 5 with
 | none => have := sizeU8; rw [hq] at this; cases this
 | some i =>
  simp [Instr.sliceAt, Instr.sureAddr, run_underlying underCode, Instr.sliceBounds, sizeOf, typeInfo, hq, Addr.add]
def negP (p : Pt) : Pt := ⟨sP 0 p.x, p.y, p.z, sP 0 p.t⟩
theorem negP_ok {p : Pt} (h : p.Ok) : (negP p).Ok := ⟨sP_lt _ _, h.y, h.z, sP_lt _ _⟩
theorem RP_neg {p : Pt} {a : G} (h : RP p a) : RP (negP p) (gNeg a) := by
 refine ⟨negP_ok h.ok, h.z, ?_, h.y, ?_⟩
 ·
  show tau (sP 0 p.x) = -a.x * tau p.z
  rw [tau_sP _ _ h.ok.x, tau_zero, h.x]
  generalize tau p.z = z; generalize a.x = x; grind
 ·
  show tau (sP 0 p.t) = -a.x * a.y * tau p.z
  rw [tau_sP _ _ h.ok.t, tau_zero, h.t]
  generalize tau p.z = z; generalize a.x = x; generalize a.y = y; grind
section
attribute [local irreducible] num4A nL pA
set_option maxRecDepth 100000 in
set_option maxHeartbeats 4000000 in
theorem ptNegA (p : Pt) (hp : p.Ok) (w : World) :
  Calls Tryz.prog 116 #[.agg (pA p)] w fun e w' => e = .returned (.agg (pA (negP p))) ∧ Below w.heap.size w w' := by
 have hz := zeroE
 have hzp := zeroP
 have Hp := hide hp
 clear hp
 go_enter Tryz.func116, Tryz.ntmps116
 go_upto_region 2 with fail
 generalize hW0 : World.alloc _ _ = W0
 have RP : Hid (W0.heap[w.heap.size]? = some (.cells (pA p) 82 (0, 0))) := by rw [← hW0]; exact heap3_0 _ _ _ _
 have RZ : Hid (W0.heap[w.heap.size + 1]? = some (.cells (pA p0) 82 (0, 0))) := by rw [← hW0]; exact heap3_1 _ _ _ _
 have RN : Hid (W0.heap[w.heap.size + 1 + 1]? = some (.cells (num4A 0) 80 (0, 0))) := by rw [← hW0]; exact heap3_2 _ _ _ _
 have BL : Hid (Below w.heap.size w W0) := by rw [← hW0]; show Below _ _ _; go_grown
 clear hW0
 refine wp_region_held_drew (S := fun w' => w'.rangeAt (w.heap.size + 1 + 1) 0 (nL 0) ∧ w'.rangeAt (w.heap.size) 0 (nL p.x) ∧ w'.rangeAt (w.heap.size) 4 (nL p.y) ∧ w'.rangeAt (w.heap.size) 8 (nL p.z) ∧ w'.rangeAt (w.heap.size) 12 (nL p.t)) (by kernel_rfl) ⟨rangeN RN.out, (rangeP RP.out).1, (rangeP RP.out).2.1, (rangeP RP.out).2.2.1, (rangeP RP.out).2.2.2⟩ (fun hHeld => ?_)
 have KV1 : Hid (Below W0.heap.size W0 W0.drew) := (Below.refl _ _).drew
 obtain ⟨V1, hV1⟩ : ∃ V, V = W0.drew := ⟨_, rfl⟩
 rw [← hV1] at hHeld KV1 ⊢
 clear hV1
 refine wpAnyH_take (i := 0) (oi := ⟨some 4, .load 80 (.tmp 3), 80, "point.go:85", #[], none⟩) (v := .agg (num4A 0)) rfl (by kernel_rfl) (by kernel_rfl) (by kernel_rfl) (fun _ _ _ h => h) (yldN (by rfl) _ rfl (w.heap.size + 1 + 1) 0 0 rfl (fun w h => h.1)) hHeld ?_
 simp only [zaP, zsT, zsZ, zsS]
 refine wpAnyH_take (i := 1) (oi := ⟨some 5, .fieldAddr 82 (.tmp 1) 0, 0, "point.go:85", #[], none⟩) (v := .pointer (some ⟨w.heap.size, 0, none⟩)) rfl (by kernel_rfl) (by kernel_rfl) (by kernel_rfl) (fun _ _ _ h => h) (Or.inl ⟨by rfl, fun w _ => by go_simp⟩) hHeld ?_
 simp only [zaP, zsT, zsZ, zsS]
 refine wpAnyH_take (i := 2) (oi := ⟨some 6, .load 80 (.tmp 5), 80, "point.go:85", #[zeD 1], none⟩) (v := .agg (num4A p.x)) rfl (by kernel_rfl) (by kernel_rfl) (by kernel_rfl) (fun _ _ _ h => h) (yldN (by rfl) _ rfl (w.heap.size) 0 p.x rfl (fun w h => h.2.1)) hHeld ?_
 simp only [zaP, zsT, zsZ, zsS]
 refine wpAnyH_take (i := 4) (oi := ⟨some 8, .fieldAddr 82 (.tmp 1) 1, 0, "point.go:85", #[], none⟩) (v := .pointer (some ⟨w.heap.size, 4, none⟩)) rfl (by kernel_rfl) (by kernel_rfl) (by kernel_rfl) (fun _ _ _ h => h) (Or.inl ⟨by rfl, fun w _ => by go_simp⟩) hHeld ?_
 simp only [zaP, zsT, zsZ, zsS]
 refine wpAnyH_take (i := 5) (oi := ⟨some 9, .load 80 (.tmp 8), 80, "point.go:85", #[zeD 4], none⟩) (v := .agg (num4A p.y)) rfl (by kernel_rfl) (by kernel_rfl) (by kernel_rfl) (fun _ _ _ h => h) (yldN (by rfl) _ rfl (w.heap.size) 4 p.y rfl (fun w h => h.2.2.1)) hHeld ?_
 simp only [zaP, zsT, zsZ, zsS]
 refine wpAnyH_take (i := 6) (oi := ⟨some 10, .fieldAddr 82 (.tmp 1) 2, 0, "point.go:85", #[], none⟩) (v := .pointer (some ⟨w.heap.size, 8, none⟩)) rfl (by kernel_rfl) (by kernel_rfl) (by kernel_rfl) (fun _ _ _ h => h) (Or.inl ⟨by rfl, fun w _ => by go_simp⟩) hHeld ?_
 simp only [zaP, zsT, zsZ, zsS]
 refine wpAnyH_take (i := 7) (oi := ⟨some 11, .load 80 (.tmp 10), 80, "point.go:85", #[zeD 6], none⟩) (v := .agg (num4A p.z)) rfl (by kernel_rfl) (by kernel_rfl) (by kernel_rfl) (fun _ _ _ h => h) (yldN (by rfl) _ rfl (w.heap.size) 8 p.z rfl (fun w h => h.2.2.2.1)) hHeld ?_
 simp only [zaP, zsT, zsZ, zsS]
 refine wpAnyH_take (i := 8) (oi := ⟨some 12, .load 80 (.tmp 3), 80, "point.go:85", #[], none⟩) (v := .agg (num4A 0)) rfl (by kernel_rfl) (by kernel_rfl) (by kernel_rfl) (fun _ _ _ h => h) (yldN (by rfl) _ rfl (w.heap.size + 1 + 1) 0 0 rfl (fun w h => h.1)) hHeld ?_
 simp only [zaP, zsT, zsZ, zsS]
 refine wpAnyH_take (i := 9) (oi := ⟨some 13, .fieldAddr 82 (.tmp 1) 3, 0, "point.go:85", #[], none⟩) (v := .pointer (some ⟨w.heap.size, 12, none⟩)) rfl (by kernel_rfl) (by kernel_rfl) (by kernel_rfl) (fun _ _ _ h => h) (Or.inl ⟨by rfl, fun w _ => by go_simp⟩) hHeld ?_
 simp only [zaP, zsT, zsZ, zsS]
 refine wpAnyH_take (i := 10) (oi := ⟨some 14, .load 80 (.tmp 13), 80, "point.go:85", #[zeD 9], none⟩) (v := .agg (num4A p.t)) rfl (by kernel_rfl) (by kernel_rfl) (by kernel_rfl) (fun _ _ _ h => h) (yldN (by rfl) _ rfl (w.heap.size) 12 p.t rfl (fun w h => h.2.2.2.2)) hHeld ?_
 simp only [zaP, zsT, zsZ, zsS]
 refine wpAnyH_ready (rs := [3]) (by kernel_rfl) (by simp) ?_
 refine AllReadyH.cons (o := ⟨some 7, .call ⟨.value (.func 119), #[.tmp 4, .tmp 6], #[80, 80]⟩, 80, "point.go:85", #[zeD 0, zeD 2], none⟩) rfl (fun K hK => ?_) ?_
 ·
  refine step_callTo (by rfl) _ _ (hrunMinus _ _ rfl (.agg (num4A 0)) (.agg (num4A p.x)) rfl rfl V1) _ _ (feMinus 0 p.x P_pos Hp.out.x V1) (fun V2 HBx => ?_)
  have KV2 := kTr KV1 HBx
  clear HBx
  refine hK.out _ _ ?_ (fun hHeld => ?_)
  · exact ⟨kNm RN KV2, kPx RP KV2, kPy RP KV2, kPz RP KV2, kPt RP KV2⟩
  clear hK K
  try simp only [zaP, zsT, zsZ, zsS]
  refine wpAnyH_ready (rs := [11]) (by kernel_rfl) (by simp) ?_
  refine AllReadyH.cons (o := ⟨some 15, .call ⟨.value (.func 119), #[.tmp 12, .tmp 14], #[80, 80]⟩, 80, "point.go:85", #[zeD 8, zeD 10, zeC 3], none⟩) rfl (fun K hK => ?_) ?_
  ·
   refine step_callTo (by rfl) _ _ (hrunMinus _ _ rfl (.agg (num4A 0)) (.agg (num4A p.t)) rfl rfl V2) _ _ (feMinus 0 p.t P_pos Hp.out.t V2) (fun V3 HBx => ?_)
   have KV3 := kTr KV2 HBx
   clear HBx
   refine hK.out _ _ ?_ (fun hHeld => ?_)
   · exact ⟨kNm RN KV3, kPx RP KV3, kPy RP KV3, kPz RP KV3, kPt RP KV3⟩
   clear hK K
   try simp only [zaP, zsT, zsZ, zsS]
   refine wpAnyH_take (i := 12) (oi := ⟨some 16, .build 82 #[(0, .tmp 7), (1, .tmp 9), (2, .tmp 11), (3, .tmp 15)], 82, "point.go:85", #[zeD 3, zeD 5, zeD 7, zeD 11], none⟩) (v := .agg (pA (negP p))) rfl (by kernel_rfl) (by kernel_rfl) (by kernel_rfl) (fun _ _ _ h => h) (yld_build' (by rfl) _ _ rfl _ _ (by kernel_rfl) (builtP (sP 0 p.x) p.y p.z (sP 0 p.t))) hHeld ?_
   simp only [zaP, zsT, zsZ, zsS]
   refine wpAnyH_ready (rs := [13]) (by kernel_rfl) (by simp) ?_
   refine AllReadyH.cons (o := ⟨none, .store 82 (.tmp 2) (.tmp 16), 0, "point.go:85", #[zeD 12, zeC 11, zeP 0, zeP 1, zeP 2, zeP 3, zeP 4, zeP 5, zeP 6, zeP 7, zeP 8, zeP 9, zeP 10, zeP 11, zeP 12], none⟩) rfl (fun K hK => ?_) ?_
   ·
    refine step_store_row _ (by rfl) 82 (.tmp 2) (.tmp 16) (by rfl) (w.heap.size + 1) (pA (negP p)) (by rfl) (by rfl) 82 _ (row_below RZ.out KV3.out (lt_row RZ.out)) (pA_size _) (pA_old _ _) (pA_all _) ?_
    rw [put_none']
    refine hK.out _ _ ?_ (fun hHeld => ?_)
    · exact ⟨range_set (kNm RN KV3) (by omega), range_set (kPx RP KV3) (by omega), range_set (kPy RP KV3) (by omega), range_set (kPz RP KV3) (by omega), range_set (kPt RP KV3) (by omega)⟩
    clear hK K
    try simp only [zaP, zsT, zsZ, zsS]
    refine wpAnyH_done (by kernel_rfl) ?_ _
    go_wp2_with fail
    have RZ9 := hide (row_below RZ.out KV3.out (lt_row RZ.out))
    have BL9 := hide (BL.out.trans (KV3.out.mono BL.out.size))
    refine bodyPost_ret (v := .agg (pA (negP p))) (results_cell_row Tryz.results116 _ _ (w.heap.size + 1) 82 _ (0, 0) _ (by rfl) (setRow_heap _ _ _ _ _ _ RZ9.out) Tryz.underlying82 rfl (pA_size _)) rfl ⟨rfl, below_setRow BL9.out (by omega) _⟩
   exact AllReadyH.nil
  exact AllReadyH.nil
 exact AllReadyH.nil
end
theorem rowF_zeroT (l : List Int) (f : Nat → Int) : ((List.range l.length).map fun i => if i < 0 then f i else l.getD i 0) = l := by
 apply List.ext_getElem?
 intro i
 by_cases h : i < l.length
 · simp [h, List.getD]
 · simp [h]
theorem rowF_stepT (l : List Int) (f : Nat → Int) (k : Nat) (h : k < l.length) :
  ((List.range l.length).map fun i => if i < k then f i else l.getD i 0).set k (f k) = (List.range l.length).map fun i => if i < k + 1 then f i else l.getD i 0 := by
 apply List.ext_getElem?
 intro i
 rw [List.getElem?_set]
 by_cases hk : k = i
 · subst hk; simp [h]
 ·
  rw [if_neg hk]
  by_cases h : i < l.length
  ·
   have e1 : (i < k + 1) = (i < k) := by apply propext; omega
   simp [h, e1]
  · simp [h]
theorem ivS_sizeT {d : List Int} (h : d.length = 17) : (Tryz.prog.info? 91).map (·.size) = some (d.map iv).toArray.size := by rw [sizeS]; simp [h]
theorem ivS_oldT {d : List Int} (h : d.length = 17) : zS.size = (d.map iv).toArray.size := by simp [h, zS]
theorem ivS_allT (d : List Int) : (d.map iv).toArray.all (·.oneCell') = true := all_oneCell_toArray (ivs_cell _)
def wI (l : List UInt8) (i : Nat) : Int := C8 (l.getD (2 * i) 0) + 256 * C8 (l.getD (2 * i + 1) 0)
def zr : List Int := List.replicate 17 0
def sRow (l : List UInt8) (k : Nat) : List Int := (List.range zr.length).map fun i => if i < k then wI l i else zr.getD i 0
theorem sRow_len (l : List UInt8) (k : Nat) : (sRow l k).length = 17 := by unfold sRow; rw [List.length_map, List.length_range]; rfl
theorem sRow_zero (l : List UInt8) : sRow l 0 = zr := rowF_zeroT zr (wI l)
theorem sRow_step (l : List UInt8) (k : Nat) (h : k < 17) : (sRow l k).set k (wI l k) = sRow l (k + 1) := rowF_stepT zr (wI l) k (by simpa [zr] using h)
theorem sRow_get (l : List UInt8) (k i : Nat) (hi : i < k) (h : i < 17) : (sRow l k).getD i 0 = wI l i := by
 unfold sRow
 rw [List.getD_eq_getElem?_getD, List.getElem?_map, List.getElem?_range (by simpa [zr] using h)]
 simp [hi]
def sA (l : List UInt8) : Array Value := ((sRow l 16).map iv).toArray
theorem sA_size (l : List UInt8) : (Tryz.prog.info? 91).map (·.size) = some (sA l).size := ivS_sizeT (sRow_len l 16)
theorem sA_old (l : List UInt8) : zS.size = (sA l).size := ivS_oldT (sRow_len l 16)
theorem sA_all (l : List UInt8) : (sA l).all (·.oneCell') = true := ivS_allT _
section
set_option maxRecDepth 100000 in
set_option maxHeartbeats 1000000 in
theorem scalarOfG (s : ByteArray) (hs : 32 ≤ s.size) (w : World) :
  Calls Tryz.prog 62 #[.string s] w fun e w' => e = .returned (.agg (sA (bytesOf s))) ∧ Below w.heap.size w w' := by
 have hz := zeroS
 have HS := hide hs
 clear hs
 obtain ⟨l, HL⟩ : ∃ l, Hid (l = bytesOf s) := ⟨_, hide rfl⟩
 go_enter Tryz.func62, Tryz.ntmps62
 go_wp2_with fail
 go_loopw [4] (fun i wr => ∃ k : Nat, k ≤ 16 ∧ i = .int .i64 ((2 * k : Nat) : Int) ∧ Hid (wr.heap[w.heap.size]? = some (.cells zS 91 (0, 0))) ∧ Hid (wr.heap[w.heap.size + 1]? = some (.cells ((sRow l k).map iv).toArray 91 (0, 0))) ∧ Hid (Below w.heap.size w wr)) (fun i _ => 32 - (intOf i).toNat)
 case atStart => exact ⟨0, Nat.zero_le _, rfl, (heap_alloc_old _ _ (by simp)).trans (heap_alloc_new _ _), by rw [sRow_zero]; exact heap_alloc2_new _ _ _, by show Below _ _ _; go_grown⟩
 case round =>
  obtain ⟨k, hk, rfl, H0, H1, HB⟩ := hrel
  obtain ⟨i, Hi⟩ : ∃ i, Hid (i = 2 * k) := ⟨_, hide rfl⟩
  rw [← Hi.out]
  by_cases hlt : k < 16
  ·
   obtain ⟨i1, Hi1⟩ : ∃ i1, Hid (i1 = i + 1) := ⟨_, hide rfl⟩
   have e1 : (i : Int) + 1 = (i1 : Int) := by have := Hi1.out; omega
   have e2 : (i : Int) / 2 = (k : Int) := by have := Hi.out; omega
   have e3 : (i : Int) + 2 = ((2 * (k + 1) : Nat) : Int) := by have := Hi.out; omega
   have bi : (i : Int) < 32 := by have := Hi.out; omega
   have bk : (k : Int) < 17 := by omega
   have bi2 : (i1 : Int) < 32 := by have := Hi.out; omega
   have hx0 := strAt s i (by have := HS.out; omega)
   have hx1 := strAt s i1 (by have := HS.out; omega)
   obtain ⟨x, HX⟩ : ∃ x, Hid (x = C8 ((bytesOf s).getD i 0)) := ⟨_, hide rfl⟩
   obtain ⟨y, HY⟩ : ∃ x, Hid (x = C8 ((bytesOf s).getD i1 0)) := ⟨_, hide rfl⟩
   rw [← HX.out] at hx0
   rw [← HY.out] at hx1
   have x0 : 0 ≤ x := by rw [HX.out]; exact C8_nonneg _
   have x1 : x < 256 := by rw [HX.out]; exact C8_lt _
   have y0 : 0 ≤ y := by rw [HY.out]; exact C8_nonneg _
   have y1 : y < 256 := by rw [HY.out]; exact C8_lt _
   have HW : Hid (x + 256 * y = wI l k) := by
    show _ = _
    unfold wI
    rw [HL.out, HX.out, HY.out, Hi1.out, Hi.out]
   have c1 := ivs_get (l := sRow l k) (T := 91) (fr := (0, 0)) H1.out k (by rw [sRow_len]; omega)
   have f1 := frozen_of_row wr (w.heap.size + 1) k _ _ H1.out
   go_wp2_with fail
   go_region
   go_wp2_with fail
   refine ⟨⟨k + 1, by omega, rfl, far_drew _ _ H0.out (by omega), ?_, (HB.out.setCell (by show _ ≤ _; simp) _).drew⟩, by simp [intOf]; omega⟩
   have e := row_store H1.out k (iv (x + 256 * y))
   have e4 : (sRow l k).set k (x + 256 * y) = sRow l (k + 1) := by rw [HW.out]; exact sRow_step l k (by omega)
   rw [← List.map_set, e4] at e
   exact e
  ·
   obtain rfl : k = 16 := by omega
   obtain rfl : i = 32 := Hi.out
   have bi : (32 : Int) ≤ ((32 : Nat) : Int) := by omega
   have H1' : Hid (wr.heap[w.heap.size + 1]? = some (.cells (sA l) 91 (0, 0))) := H1.out
   clear H1 hlt hk
   go_wp2_with (first
    | (refine wpList_load_row (by rfl) 91 (.tmp 3) (by rfl) (w.heap.size + 1) (by rfl) 91 (sA l) (0, 0) _ H1'.out underS' rfl (sA_size _) ?_)
    | (refine wpList_store_row (by rfl) 91 (.tmp 2) (.tmp 23) (by rfl) w.heap.size (sA l) (by rfl) (by rfl) 91 _ H0.out (sA_size _) (sA_old _) (sA_all _) ?_))
   refine bodyPost_ret (v := .agg (sA l)) (results_cell_row Tryz.results62 _ _ w.heap.size 91 _ (0, 0) _ (by rfl) (setRow_heap _ _ _ _ _ _ H0.out) underS' rfl (sA_size _)) rfl ⟨by rw [HL.out], below_setRow HB.out (Nat.le_refl _) _⟩
theorem scalarOfA (s : ByteArray) (hs : s.size = 32) (w : World) :
  Calls Tryz.prog 62 #[.string s] w fun e w' => e = .returned (.agg (sA (bytesOf s))) ∧ Below w.heap.size w w' := scalarOfG s (by omega) w
end
theorem sA_def (l : List UInt8) : sA l = ((sRow l 16).map iv).toArray := rfl
def btI (l : List UInt8) (i : Nat) : Bool := decide (wI l (i / 16) / 2 ^ (i % 16) % 2 = 1)
def one3 : Q3 := ⟨0, 1, 1⟩
def tmQ (d : Nat) (l : List UInt8) (p : Q3) : Nat → Q3
 | 0 => one3
 | k + 1 => if btI l (255 - k) = true then plusD d (plusD d (tmQ d l p k) (tmQ d l p k)) p else plusD d (tmQ d l p k) (tmQ d l p k)
theorem tmQ_ok (d : Nat) (l : List UInt8) (p : Q3) : ∀ k, (tmQ d l p k).Ok
 | 0 => ⟨P_pos, oneP, oneP⟩
 | k + 1 => by
  rw [tmQ]; split
  · exact plusD_ok _ _ _
  · exact plusD_ok _ _ _
theorem builtZ3_gen (b0 b1 b2 b3 b4 b5 b6 b7 b8 b9 c0 c1 c2 c3 c4 c5 c6 c7 c8 c9 : Int) :
  Tryz.prog.built 98 [(1, .agg #[iv b0, iv b1, iv b2, iv b3, iv b4, iv b5, iv b6, iv b7, iv b8, iv b9]), (2, .agg #[iv c0, iv c1, iv c2, iv c3, iv c4, iv c5, iv c6, iv c7, iv c8, iv c9])]
   = some #[iv 0, iv 0, iv 0, iv 0, iv 0, iv 0, iv 0, iv 0, iv 0, iv 0, iv b0, iv b1, iv b2, iv b3, iv b4, iv b5, iv b6, iv b7, iv b8, iv b9, iv c0, iv c1, iv c2, iv c3, iv c4, iv c5, iv c6, iv c7, iv c8, iv c9] := by kernel_rfl
theorem builtZ3 : Tryz.prog.built 98 [(1, .agg (fA 1)), (2, .agg (fA 1))] = some (qA one3) := by
 rw [fA_list, builtZ3_gen]
 unfold qA qL one3
 rw [fL_zero, fL_list]
 rfl
theorem wI_nonneg (l : List UInt8) (i : Nat) : 0 ≤ wI l i ∧ wI l i < 65536 := by
 unfold wI
 have a := C8_nonneg (l.getD (2 * i) 0)
 have b := C8_lt (l.getD (2 * i) 0)
 have c := C8_nonneg (l.getD (2 * i + 1) 0)
 have d := C8_lt (l.getD (2 * i + 1) 0)
 omega
theorem wpBuildQ {P : Program} {ops : Array Oper} {rest : List Oper} {o : Oper} {a : Act} {w : World} {Q : Exit → Act → World → Prop} (hg : o.guard = none) (t : TypeId) (parts : Array (Nat × Operand)) (ho : o.op = .build t parts) (cells : Array Value) (ps : List (Nat × Value))
  (hp : (parts.map fun (i, x) => (i, a.eval x)).toList = ps) (hb : P.built t ps = some cells) (h : wpList P ops Q rest (a.put o.dst (.agg cells)) w) : wpList P ops Q (o :: rest) a w :=
 wpList_build hg t parts ho (by rw [hp, hb]; rfl) (by rw [hp, hb]; exact h)
section
attribute [local irreducible] fA fL qA sA
set_option maxRecDepth 100000 in
set_option maxHeartbeats 4000000 in
theorem timesA (d : Nat) (hd : d < P) (l : List UInt8) (p : Q3) (hp : p.Ok) (w : World) :
  Calls Tryz.prog 34 #[.agg (fA d), .agg (sA l), .agg (qA p)] w fun e w' => e = .returned (.agg (qA (tmQ d l p 256))) ∧ Below w.heap.size w w' := by
 have hz := zeroFA
 have hzq := zeroQ
 have Hd := hide hd
 have Hp := hide hp
 clear hd hp
 go_enter Tryz.func34, Tryz.ntmps34
 go_upto_region 1 with fail
 generalize hW0 : World.alloc _ _ = W0
 have R3 : Hid (W0.heap[w.heap.size]? = some (.cells (fA d) 95 (0, 0))) := by rw [← hW0]; exact at4_0 _ _ _ _ _
 have R4 : Hid (W0.heap[w.heap.size + 1]? = some (.cells (sA l) 91 (0, 0))) := by rw [← hW0]; exact at4_1 _ _ _ _ _
 have R5 : Hid (W0.heap[w.heap.size + 1 + 1]? = some (.cells (qA p) 98 (0, 0))) := by rw [← hW0]; exact at4_2 _ _ _ _ _
 have R6 : Hid (W0.heap[w.heap.size + 1 + 1 + 1]? = some (.cells (qA q0) 98 (0, 0))) := by rw [← hW0]; exact at4_3 _ _ _ _ _
 have BL : Hid (Below w.heap.size w W0) := by rw [← hW0]; show Below _ _ _; go_grown
 clear hW0
 obtain ⟨g4, h4⟩ : ∃ b, b = w.heap.size + 1 := ⟨_, rfl⟩
 obtain ⟨g5, h5⟩ : ∃ b, b = w.heap.size + 1 + 1 := ⟨_, rfl⟩
 obtain ⟨g6, h6⟩ : ∃ b, b = w.heap.size + 1 + 1 + 1 := ⟨_, rfl⟩
 rw [← h6] at R6 ⊢
 rw [← h5] at R5 ⊢
 rw [← h4] at R4 ⊢
 have q34 : w.heap.size < g4 := by omega
 have q45 : g4 < g5 := by omega
 have q56 : g5 < g6 := by omega
 clear h4 h5 h6
 go_wp2_with fail
 refine (smallOne _).mono ?_
 rintro e W1 ⟨rfl, hB⟩
 have R3 := hide (row_keep' R3.out hB)
 have R4 := hide (row_keep' R4.out hB)
 have R5 := hide (row_keep' R5.out hB)
 have R6 := hide (row_keep' R6.out hB)
 have BL := kTr BL hB
 clear hB
 go_wp2_with fail
 refine (smallOne _).mono ?_
 rintro e W2 ⟨rfl, hB⟩
 have R3 := hide (row_keep' R3.out hB)
 have R4 := hide (row_keep' R4.out hB)
 have R5 := hide (row_keep' R5.out hB)
 have R6 := hide (row_keep' R6.out hB)
 have BL := kTr BL hB
 clear hB
 have l3 := lt_row R3.out
 have l4 := lt_row R4.out
 have l5 := lt_row R5.out
 have l6 := lt_row R6.out
 rename_i hk
 refine hk _ _ ?_
 refine wpBuildQ (by rfl) 98 _ (by rfl) (qA one3) [(1, .agg (fA 1)), (2, .agg (fA 1))] (by kernel_rfl) builtZ3 ?_
 go_upto_region 2 with (first | (refine wpList_store_row (by rfl) 98 (.tmp 7) (.tmp 11) (by rfl) W2.heap.size (qA one3) (by rfl) (by rfl) 98 _ (heap_alloc_new _ _) (qA_size _) (qA_old _ _) (qA_all _) ?_))
 try rw [put_none']
 obtain ⟨g7, hg7⟩ : ∃ s, s = W2.heap.size := ⟨_, rfl⟩
 generalize hW3 : World.setRow _ _ _ = W3
 have K3 : Hid (Below W2.heap.size W2 W3) := by rw [← hW3]; exact below_setRow ((Below.refl _ _).alloc (Nat.le_refl _) _) (Nat.le_refl _) _
 have R7 : Hid (W3.heap[g7]? = some (.cells (qA one3) 98 (0, 0))) := by rw [← hW3, hg7]; exact setRow_heap _ _ _ _ _ _ (heap_alloc_new _ _)
 have R3 := hide (row_keep' R3.out K3.out)
 have R4 := hide (row_keep' R4.out K3.out)
 have R5 := hide (row_keep' R5.out K3.out)
 have R6 := hide (row_keep' R6.out K3.out)
 have BL : Hid (Below w.heap.size w W3) := BL.out.trans (K3.out.mono BL.out.size)
 have q67 : g6 < g7 := by omega
 rw [← hg7]
 clear hW3 hg7 K3 l3 l4 l5 l6
 go_wp2_with fail
 go_loopw [8] (fun i wr => ∃ k : Nat, k ≤ 256 ∧ i = .int .i64 (255 - (k : Int)) ∧ Hid (wr.heap[w.heap.size]? = some (.cells (fA d) 95 (0, 0))) ∧ Hid (wr.heap[g4]? = some (.cells (sA l) 91 (0, 0))) ∧ Hid (wr.heap[g5]? = some (.cells (qA p) 98 (0, 0))) ∧ Hid (wr.heap[g6]? = some (.cells (qA q0) 98 (0, 0))) ∧ Hid (wr.heap[g7]? = some (.cells (qA (tmQ d l p k)) 98 (0, 0))) ∧ Hid (Below w.heap.size w wr)) (fun i _ => (intOf i + 1).toNat)
 case atStart => exact ⟨0, by omega, rfl, R3, R4, R5, R6, R7, BL⟩
 case round =>
  clear R3 R4 R5 R6 R7 BL
  obtain ⟨k, hk, rfl, R3, R4, R5, R6, R7, BL⟩ := hrel
  by_cases hlt : k < 256
  ·
   obtain ⟨a, Ea⟩ : ∃ a, Hid (a = 255 - k) := ⟨_, hide rfl⟩
   have ea : (255 : Int) - (k : Int) = (a : Int) := by have := Ea.out; omega
   have ha : a < 256 := by have := Ea.out; omega
   have ba : (0 : Int) ≤ (a : Int) := by omega
   obtain ⟨o, Eo⟩ : ∃ o, Hid (o = tmQ d l p k) := ⟨_, hide rfl⟩
   have Ho : Hid o.Ok := by rw [Eo.out]; exact tmQ_ok d l p k
   rw [← Eo.out] at R7
   go_wp2_with (first
    | (refine wpList_load_row (by rfl) 95 (.tmp 3) (by rfl) w.heap.size (by rfl) 95 (fA d) (0, 0) _ R3.out underF rfl (fA_size _) ?_)
    | (refine wpList_load_row (by rfl) 98 (.tmp 7) (by rfl) g7 (by rfl) 98 (qA o) (0, 0) _ R7.out Tryz.underlying98 rfl (qA_size _) ?_))
   refine (plusA d o o Hd.out Ho.out Ho.out _).mono ?_
   rintro e W4 ⟨rfl, hB⟩
   have R3 := hide (row_keep' R3.out hB)
   have R4 := hide (row_keep' R4.out hB)
   have R5 := hide (row_keep' R5.out hB)
   have R6 := hide (row_keep' R6.out hB)
   have R7 := hide (row_keep' R7.out hB)
   have BL := kTr BL hB
   clear hB
   obtain ⟨o2, Eo2⟩ : ∃ o2, Hid (o2 = plusD d o o) := ⟨_, hide rfl⟩
   have Ho2 : Hid o2.Ok := by rw [Eo2.out]; exact plusD_ok _ _ _
   rw [← Eo2.out]
   go_upto_region 6 with (first
    | (refine wpList_store_row (by rfl) 98 (.tmp 7) (.tmp 19) (by rfl) g7 (qA o2) (by rfl) (by rfl) 98 _ R7.out (qA_size _) (qA_old _ _) (qA_all _) ?_))
   try rw [put_none']
   generalize hW5 : World.setRow _ _ _ = W5
   have R3 : Hid (W5.heap[w.heap.size]? = some (.cells (fA d) 95 (0, 0))) := by rw [← hW5]; exact (setRow_other _ _ _ _ (by omega)).trans R3.out
   have R4 : Hid (W5.heap[g4]? = some (.cells (sA l) 91 (0, 0))) := by rw [← hW5]; exact (setRow_other _ _ _ _ (by omega)).trans R4.out
   have R5 : Hid (W5.heap[g5]? = some (.cells (qA p) 98 (0, 0))) := by rw [← hW5]; exact (setRow_other _ _ _ _ (by omega)).trans R5.out
   have R6 : Hid (W5.heap[g6]? = some (.cells (qA q0) 98 (0, 0))) := by rw [← hW5]; exact (setRow_other _ _ _ _ (by omega)).trans R6.out
   have R7 : Hid (W5.heap[g7]? = some (.cells (qA o2) 98 (0, 0))) := by rw [← hW5]; exact setRow_heap _ _ _ _ _ _ R7.out
   have BL : Hid (Below w.heap.size w W5) := by rw [← hW5]; exact below_setRow BL.out (by omega) _
   clear hW5
   obtain ⟨q, Hq⟩ : ∃ q, Hid (q = a / 16) := ⟨_, hide rfl⟩
   obtain ⟨r, Hr⟩ : ∃ r, Hid (r = a % 16) := ⟨_, hide rfl⟩
   have eq : (a : Int) / 16 = (q : Int) := by have := Hq.out; omega
   have er : (a : Int) % 16 = (r : Int) := by have := Hr.out; omega
   have bq : (q : Int) < 17 := by have := Hq.out; omega
   have br : (r : Int) < 16 := by have := Hr.out; omega
   have hq16 : q < 16 := by have := Hq.out; omega
   have c1 := ivs_get (l := sRow l 16) (T := 91) (fr := (0, 0)) (by have e := R4.out; rw [sA_def] at e; exact e) q (by rw [sRow_len]; omega)
   rw [sRow_get l 16 q hq16 (by omega)] at c1
   obtain ⟨x, HX⟩ : ∃ x, Hid (x = wI l q) := ⟨_, hide rfl⟩
   rw [← HX.out] at c1
   have x0 : 0 ≤ x := by rw [HX.out]; exact (wI_nonneg l q).1
   have hnn : 0 ≤ x / 2 ^ r := Int.ediv_nonneg x0 (Int.le_of_lt (Int.pow_pos (by decide)))
   have hb : ((x / 2 ^ r).tmod 2 == 1) = btI l a := by
    rw [Int.tmod_eq_emod_of_nonneg hnn, HX.out, Hq.out, Hr.out]
    unfold btI
    by_cases h : wI l (a / 16) / 2 ^ (a % 16) % 2 = 1
    · rw [h]; simp
    · rw [decide_eq_false h, beq_eq_false_iff_ne]; exact h
   have em : (a : Int) - 1 = 255 - ((k + 1 : Nat) : Int) := by have := Ea.out; omega
   clear hnn
   cases hbt : btI l a
   ·
    rw [hbt] at hb
    have HE : Hid (o2 = tmQ d l p (k + 1)) := by
     show _ = _
     rw [tmQ, ← Ea.out, if_neg (by rw [hbt]; decide), Eo2.out, Eo.out]
    clear hbt
    go_wp2_with fail
    exact ⟨⟨k + 1, by omega, rfl, R3, R4, R5, R6, by rw [← HE.out]; exact R7, BL⟩, by simp [intOf]; omega⟩
   ·
    rw [hbt] at hb
    have HE : Hid (plusD d o2 p = tmQ d l p (k + 1)) := by
     show _ = _
     rw [tmQ, ← Ea.out, if_pos hbt, Eo2.out, Eo.out]
    clear hbt
    go_wp2_with (first
     | (refine wpList_load_row (by rfl) 95 (.tmp 3) (by rfl) w.heap.size (by rfl) 95 (fA d) (0, 0) _ R3.out underF rfl (fA_size _) ?_)
     | (refine wpList_load_row (by rfl) 98 (.tmp 7) (by rfl) g7 (by rfl) 98 (qA o2) (0, 0) _ R7.out Tryz.underlying98 rfl (qA_size _) ?_)
     | (refine wpList_load_row (by rfl) 98 (.tmp 5) (by rfl) g5 (by rfl) 98 (qA p) (0, 0) _ R5.out Tryz.underlying98 rfl (qA_size _) ?_))
    refine (plusA d o2 p Hd.out Ho2.out Hp.out _).mono ?_
    rintro e W6 ⟨rfl, hB⟩
    have R3 := hide (row_keep' R3.out hB)
    have R4 := hide (row_keep' R4.out hB)
    have R5 := hide (row_keep' R5.out hB)
    have R6 := hide (row_keep' R6.out hB)
    have R7 := hide (row_keep' R7.out hB)
    have BL := kTr BL hB
    clear hB c1
    rw [HE.out]
    go_upto_region 4 with (first
     | (refine wpList_store_row (by rfl) 98 (.tmp 7) (.tmp 32) (by rfl) g7 (qA (tmQ d l p (k + 1))) (by rfl) (by rfl) 98 _ R7.out (qA_size _) (qA_old _ _) (qA_all _) ?_))
    try rw [put_none']
    generalize hW7 : World.setRow _ _ _ = W7
    have R3 : Hid (W7.heap[w.heap.size]? = some (.cells (fA d) 95 (0, 0))) := by rw [← hW7]; exact (setRow_other _ _ _ _ (by omega)).trans R3.out
    have R4 : Hid (W7.heap[g4]? = some (.cells (sA l) 91 (0, 0))) := by rw [← hW7]; exact (setRow_other _ _ _ _ (by omega)).trans R4.out
    have R5 : Hid (W7.heap[g5]? = some (.cells (qA p) 98 (0, 0))) := by rw [← hW7]; exact (setRow_other _ _ _ _ (by omega)).trans R5.out
    have R6 : Hid (W7.heap[g6]? = some (.cells (qA q0) 98 (0, 0))) := by rw [← hW7]; exact (setRow_other _ _ _ _ (by omega)).trans R6.out
    have R7 : Hid (W7.heap[g7]? = some (.cells (qA (tmQ d l p (k + 1))) 98 (0, 0))) := by rw [← hW7]; exact setRow_heap _ _ _ _ _ _ R7.out
    have BL : Hid (Below w.heap.size w W7) := by rw [← hW7]; exact below_setRow BL.out (by omega) _
    clear hW7
    go_wp2_with fail
    exact ⟨⟨k + 1, by omega, rfl, R3, R4, R5, R6, R7, BL⟩, by simp [intOf]; omega⟩
  ·
   obtain rfl : k = 256 := by omega
   have bk2 : (255 : Int) - ((256 : Nat) : Int) = -1 := by omega
   clear hlt hk
   go_wp2_with (first
    | (refine wpList_load_row (by rfl) 98 (.tmp 7) (by rfl) g7 (by rfl) 98 (qA (tmQ d l p 256)) (0, 0) _ R7.out Tryz.underlying98 rfl (qA_size _) ?_)
    | (refine wpList_store_row (by rfl) 98 (.tmp 6) (.tmp 33) (by rfl) g6 (qA (tmQ d l p 256)) (by rfl) (by rfl) 98 _ R6.out (qA_size _) (qA_old _ _) (qA_all _) ?_))
   refine bodyPost_ret (v := .agg (qA (tmQ d l p 256))) (results_cell_row Tryz.results34 _ _ g6 98 _ (0, 0) _ (by rfl) (setRow_heap _ _ _ _ _ _ R6.out) Tryz.underlying98 rfl (qA_size _)) rfl ⟨rfl, below_setRow BL.out (by omega) _⟩
end
end Go.Proofs.YtccgfabojbjmjaaGreatDoor
