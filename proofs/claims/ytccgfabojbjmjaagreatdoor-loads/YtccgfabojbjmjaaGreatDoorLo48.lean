import Derived.Test.YtccgfabojbjmjaaGreatDoorLo47
import Derived.LaidLaws
import Derived.LaidHandle
set_option maxRecDepth 100000
set_option maxHeartbeats 8000000
namespace Go.Proofs.YtccgfabojbjmjaaGreatDoor
open Go.ChangeShapes Go.WideShapes Go.ChangeAt Go.RowKit
theorem qfY {L : List (String × DataW Unit)} {W : World} {nm : String} {yg : DataW Unit} {g : Nat} {zs : List Int} {n : Nat} (hL : laidMetH Tryz.prog L W) (hf : L.filter (fun x => x.1 == nm) = [(nm, yg)]) (hg : Tryz.prog.globalNamed nm = some g) (ht : (Tryz.prog.globals[g]?).map (·.type) = some 80) (hl : yg = Lib.tabData .u64 zs) (hn : (zs.map fun z => Value.int .u64 z).toArray = qb n) : ∃ T fr, W.heap[g]? = some (.cells (qb n) T fr) := by
 have h1 : laidMetH Tryz.prog (L.filter (fun x => x.1 == nm)) W := laidMetH.filter (fun x => x.1 == nm) hL
 rw [hf, hl] at h1
 exact qtz hg hn (Lib.tabIs_of_head (rest := []) hg ht jC qeG qgY qpF h1)
theorem gvC : Tryz.prog.globalNamed "latch/curve.baseCode" = some 7 := by kernel_rfl
theorem gtC : (Tryz.prog.globals[7]?).map (·.type) = some 62 := by kernel_rfl
theorem qkb : Tryz.prog.cellsOf 62 = 32 := by kernel_rfl
theorem qqS : Tryz.prog.cellsOf 5 = 1 := by kernel_rfl
theorem qhq : Tryz.prog.underlying 62 = some (.array 32 5) := by kernel_rfl
def qpL : List Int := [88, 102, 102, 102, 102, 102, 102, 102, 102, 102, 102, 102, 102, 102, 102, 102, 102, 102, 102, 102, 102, 102, 102, 102, 102, 102, 102, 102, 102, 102, 102, 102]
theorem quf : (Rows.laid_latch_curve_baseCode : DataW Unit) = Lib.tabData .u8 qpL := by kernel_rfl
theorem qvK : (qpL.map fun z => Value.int .u8 z).toArray = bA ZJ := by kernel_rfl
theorem qnP {L : List (String × DataW Unit)} {W : World} (hL : laidMetH Tryz.prog L W) (hf : L.filter (fun x => x.1 == "latch/curve.baseCode") = [("latch/curve.baseCode", Rows.laid_latch_curve_baseCode)]) : ∃ T fr, W.heap[7]? = some (.cells (bA ZJ) T fr) := by
 have h1 : laidMetH Tryz.prog (L.filter (fun x => x.1 == "latch/curve.baseCode")) W := laidMetH.filter (fun x => x.1 == "latch/curve.baseCode") hL
 rw [hf, quf] at h1
 have t := Lib.tabIs_of_head (rest := []) gvC gtC qhq qe5 qqS qkb h1
 unfold Lib.TabIs World.var? at t
 rw [gvC] at t
 simp only [Option.bind_some] at t
 split at t
 ·
  rename_i cs ty fr h
  refine ⟨ty, fr, h.trans ?_⟩
  rw [Option.some.inj t, ← qvK]
 · cases t
theorem qtr {L : List (String × DataW Unit)} {W : World} (h : laidMetH Tryz.prog L W)
  (fM : L.filter (fun x => x.1 == "latch/field.modulus") = [("latch/field.modulus", Rows.laid_latch_field_modulus)])
  (fR : L.filter (fun x => x.1 == "latch/field.rootOfMinusOne") = [("latch/field.rootOfMinusOne", Rows.laid_latch_field_rootOfMinusOne)])
  (fC : L.filter (fun x => x.1 == "latch/curve.baseCode") = [("latch/curve.baseCode", Rows.laid_latch_curve_baseCode)])
  (fO : L.filter (fun x => x.1 == "latch/curve.one") = [("latch/curve.one", Rows.laid_latch_curve_one)])
  (fD : L.filter (fun x => x.1 == "latch/curve.d") = [("latch/curve.d", Rows.laid_latch_curve_d)])
  (fT : L.filter (fun x => x.1 == "latch/curve.twoD") = [("latch/curve.twoD", Rows.laid_latch_curve_twoD)]) : Qq W :=
 ⟨⟨qfY h fT gvT gtT qvp qvY, qfY h fO gvO gtO quS qvJ, qfY h fM gvM gtM qur qvT, qfY h fD gvD gtD quT qvM, qfY h fR gvR gtR quk qvU⟩, qnP h fC⟩
noncomputable def qew (os : Os) : World :=
 { qeq os with heap := yL 7 (qpL.map fun z => Value.int .u8 z).toArray (qeq os).heap }
open Go.ChangeShapes Go.WideShapes Go.ChangeAt Go.RowKit
theorem qty : Tryz.prog.globalNamed "latch/digest.roundWords" = some 9 := by kernel_rfl
theorem qkT : (Tryz.prog.globals[9]?).map (·.type) = some 257 := by kernel_rfl
theorem qnm : Tryz.prog.cellsOf 257 = 80 := by kernel_rfl
def qf8 : List Int := Y6.map U
theorem qkh : (Rows.laid_latch_digest_roundWords : DataW Unit) = Lib.tabData .u64 qf8 := by kernel_rfl
theorem qjR (i : Nat) (h : i < 80) : qf8.getD i 0 = U (kw i) := by
 have hl : i < Y6.length := h
 simp [qf8, kw, List.getD, zO hl]
theorem qq2 {L : List (String × DataW Unit)} {W : World} (hL : laidMetH Tryz.prog L W) (hf : L.filter (fun x => x.1 == "latch/digest.roundWords") = [("latch/digest.roundWords", Rows.laid_latch_digest_roundWords)]) : j9 W := by
 have h1 : laidMetH Tryz.prog (L.filter (fun x => x.1 == "latch/digest.roundWords")) W := laidMetH.filter (fun x => x.1 == "latch/digest.roundWords") hL
 rw [hf, qkh] at h1
 have t : Lib.TabIs Tryz.prog W "latch/digest.roundWords" .u64 qf8 := Lib.tabIs_of_head (rest := []) qty qkT qhu qeG qgY qnm h1
 intro i hi
 have e := t.cell qty i (by show i < qf8.length; exact hi)
 rw [qjR i hi] at e
 exact e
theorem qpI {L : List (String × DataW Unit)} {W : World} (hL : laidMetH Tryz.prog L W) (hf : L.filter (fun x => x.1 == "latch/scalar.order") = [("latch/scalar.order", Rows.laid_latch_scalar_order)]) : QT W := by
 have h1 : laidMetH Tryz.prog (L.filter (fun x => x.1 == "latch/scalar.order")) W := laidMetH.filter (fun x => x.1 == "latch/scalar.order") hL
 rw [hf] at h1
 exact qmc h1
theorem qv3 : Tryz.prog.globalNamed "errors.errorType" = some 3 := by kernel_rfl
theorem rtS : (Tryz.prog.cutTypes.find? (·.1 == "internal/reflectlite.rtype")).map (·.2) = some 239 := by kernel_rfl
theorem qp4 : ((List.range 312).filter fun t => Tryz.prog.rowNamed t [101, 114, 114, 111, 114]) = [66] := by kernel_rfl
theorem qsO : Tryz.prog.types.size = 312 := by kernel_rfl
theorem qrA {L : List (String × DataW Unit)} {W : World} (hL : laidMetH Tryz.prog L W) (hf : L.filter (fun x => x.1 == "errors.errorType") = [("errors.errorType", Rows.laid_errors_errorType)]) : W.cell? ⟨3, 0, none⟩ = some (j7 66) := by
 have h1 : laidMetH Tryz.prog (L.filter (fun x => x.1 == "errors.errorType")) W := laidMetH.filter (fun x => x.1 == "errors.errorType") hL
 rw [hf] at h1
 have h' : laidMet Tryz.prog [] W ∧ handlesMet Tryz.prog [("errors.errorType", Rows.laid_errors_errorType)] W := h1
 obtain ⟨name, u, ty, e1, e2, e3, e4, e5⟩ := h'.2 _ (List.mem_singleton.2 rfl)
 have en : name = [101, 114, 114, 111, 114] := (Option.some.inj e1).symm
 subst en
 obtain rfl := Option.some.inj (rtS.symm.trans e2)
 have hm : ty ∈ (List.range 312).filter fun t => Tryz.prog.rowNamed t [101, 114, 114, 111, 114] := List.mem_filter.2 ⟨List.mem_range.2 (by rw [← qsO]; exact e3), e4⟩
 rw [qp4] at hm
 obtain rfl := List.mem_singleton.1 hm
 have hh : typeHandle Tryz.prog 66 = .pointer (some ⟨13, 66, none⟩) := by kernel_rfl
 rw [hh] at e5
 simpa using World.var?_cell qv3 e5 0
theorem qt6 : "*" ++ "errors.errorString" = "*errors.errorString" := by decide
theorem qvO (u : TypeId) (h : Tryz.prog.typeName? 3 u = some "*errors.errorString") : u = 282 :=
 typeName_ptr_named (nm := "errors.errorString") (by rw [qt6]; kernel_rfl) (by kernel_rfl) (by decide) u (by rw [qt6]; exact h)
theorem qp0 : Tryz.prog.cellsOf 301 = 1 := by kernel_rfl
theorem qoA : Tryz.prog.cellsOf 9 = 1 := by kernel_rfl
theorem qcR {L : List (String × DataW Unit)} {W : World} {nm : String} {g : Nat} {text : List UInt8} (hL : laidMetH Tryz.prog L W) (hf : L.filter (fun x => x.1 == nm) = [(nm, .iface "*errors.errorString" (.ptr (.agg [.lit (.string text)])))]) (hg : Tryz.prog.globalNamed nm = some g) (ht : (Tryz.prog.globals[g]?).map (·.type) = some 66) :
  ∃ (a : Addr) (s : ByteArray), ZO W g a ∧ W.cell? a = some (.string s) ∧ s.data.toList = text := by
 have h1 : laidMetH Tryz.prog (L.filter (fun x => x.1 == nm)) W := laidMetH.filter (fun x => x.1 == nm) hL
 rw [hf] at h1
 have h2 : laidMet Tryz.prog [(nm, .iface "*errors.errorString" (.ptr (.agg [.lit (.string text)])))] W := h1
 obtain ⟨ps, ⟨g0, t0, cs0, f0, p0, q0, hg0, ht0, hv0, hd0, hq0, e0⟩, hnd, hrows⟩ := h2
 obtain rfl := Option.some.inj (hg.symm.trans hg0)
 obtain rfl := Option.some.inj (ht.symm.trans ht0)
 have hq0' : q0 = [] := hq0
 subst hq0'
 subst e0
 obtain ⟨l0⟩ := cs0
 have ok0 : ∀ u v, l0 = [.iface u v] → Value.okWide Tryz.prog W .any 0 u v := fun u v e => by
  subst e
  exact (hrows g 0 (by simp [MemPlace.row])).2 u v (by simpa using World.var?_cell hg0 hv0 0)
 obtain ⟨a0, s0, rfl, hc0, hs0, hz0, rfl⟩ := errorString_of_trod Tryz.underlying66 qvO Tryz.underlying282 Tryz.underlying301 rfl rfl Tryz.underlying9 qp0 qoA hd0 ok0
 obtain ⟨c0, t0, hb0⟩ := (hrows a0.block a0.off (by simp [MemPlace.row])).1
 exact ⟨a0, s0, ⟨by simpa [qU] using World.var?_cell hg0 hv0 0, c0, t0, hb0⟩, hc0, hs0⟩
theorem qcD {W : World} {a b : Addr} {s t : ByteArray} (ha : W.cell? a = some (.string s)) (hb : W.cell? b = some (.string t)) {x y : List UInt8} (hs : s.data.toList = x) (ht : t.data.toList = y) (h : x ≠ y) : a ≠ b := by
 rintro rfl
 rw [ha] at hb
 have e : s = t := by injection hb with hb; injection hb
 subst e
 exact h (hs.symm.trans ht)
theorem qmE {L : List (String × DataW Unit)} {W : World} (hL : laidMetH Tryz.prog L W)
  (fE : L.filter (fun x => x.1 == "errors.errorType") = [("errors.errorType", Rows.laid_errors_errorType)])
  (fK : L.filter (fun x => x.1 == "latch/fault.ErrKeys") = [("latch/fault.ErrKeys", Rows.laid_latch_fault_ErrKeys)])
  (fP : L.filter (fun x => x.1 == "latch/fault.ErrPoint") = [("latch/fault.ErrPoint", Rows.laid_latch_fault_ErrPoint)])
  (fS : L.filter (fun x => x.1 == "latch/fault.ErrScalar") = [("latch/fault.ErrScalar", Rows.laid_latch_fault_ErrScalar)])
  (fG : L.filter (fun x => x.1 == "latch/fault.ErrSign") = [("latch/fault.ErrSign", Rows.laid_latch_fault_ErrSign)]) : ∃ k p s g, qgz W k p s g := by
 obtain ⟨k, sk, hk, ck, ek⟩ := qcR hL fK (g := 0) (by kernel_rfl) (by kernel_rfl)
 obtain ⟨p, sp, hp, cp, ep⟩ := qcR hL fP (g := 1) (by kernel_rfl) (by kernel_rfl)
 obtain ⟨s, ss, hs, cs, es⟩ := qcR hL fS (g := 2) (by kernel_rfl) (by kernel_rfl)
 obtain ⟨g, sg, hg, cg, eg⟩ := qcR hL fG (g := 4) (by kernel_rfl) (by kernel_rfl)
 exact ⟨k, p, s, g, qrA hL fE, hk, hp, hs, hg, qcD cp ck ep ek (by decide), qcD cs ck es ek (by decide), qcD cs cp es ep (by decide), qcD cg ck eg ek (by decide), qcD cg cp eg ep (by decide), qcD cg cs eg es (by decide)⟩
noncomputable def qub : Nat := (World.holding Tryz.prog default ⟨#[], #[], []⟩).heap.size
def txK : ByteArray := ⟨#[116, 104, 101, 121, 32, 97, 114, 101, 32, 116, 111, 111, 32, 109, 97, 110, 121, 44, 32, 111, 114, 32, 111, 110, 101, 32, 105, 115, 32, 111, 102, 32, 97, 110, 111, 116, 104, 101, 114, 32, 115, 105, 122, 101]⟩
def txP : ByteArray := ⟨#[105, 116, 32, 105, 115, 32, 110, 111, 32, 112, 111, 105, 110, 116, 39, 115, 32, 99, 111, 100, 101]⟩
def txS : ByteArray := ⟨#[105, 116, 32, 105, 115, 32, 110, 111, 116, 32, 98, 101, 108, 111, 119, 32, 76]⟩
def txG : ByteArray := ⟨#[105, 116, 32, 105, 115, 32, 110, 111, 116, 32, 114, 105, 103, 104, 116]⟩
noncomputable def qep (os : Os) : World :=
 { qew os with heap := yL 0 #[qU ⟨qub, 0, none⟩] (yL 1 #[qU ⟨qub + 1, 0, none⟩] (yL 2 #[qU ⟨qub + 2, 0, none⟩] (yL 4 #[qU ⟨qub + 3, 0, none⟩] (yL 3 #[j7 66] (yL 6 #[nv 6346243789798364141, nv 1503914060200516822, nv 0, nv 1152921504606846976] (yL 9 (Y6.map uv).toArray (qew os).heap)))))) ++ #[.cells #[.string txK] 301, .cells #[.string txP] 301, .cells #[.string txS] 301, .cells #[.string txG] 301] }
def qup : List UInt8 := [112, 97, 121, 108, 111, 97, 100]
def qvX : List UInt8 := [112, 179, 60, 233, 201, 4, 126, 48, 249, 23, 231, 234, 19, 228, 47, 119, 103, 0, 140, 63, 79, 156, 155, 175, 73, 228, 57, 15, 198, 37, 84, 158, 150, 37, 238, 227, 155, 148, 84, 80, 116, 232, 161, 130, 76, 243, 242, 56, 70, 59, 17, 188, 3, 217, 115, 72, 224, 252, 41, 153, 202, 31, 255, 127]
def qsx : List UInt8 := [112, 97, 121, 108, 111, 97, 100, 128, 0, 0, 0, 0, 0, 0, 0, 0, 0, 0, 0, 0, 0, 0, 0, 0, 0, 0, 0, 0, 0, 0, 0, 0, 0, 0, 0, 0, 0, 0, 0, 0, 0, 0, 0, 0, 0, 0, 0, 0, 0, 0, 0, 0, 0, 0, 0, 0, 0, 0, 0, 0, 0, 0, 0, 0, 0, 0, 0, 0, 0, 0, 0, 0, 0, 0, 0, 0, 0, 0, 0, 0, 0, 0, 0, 0, 0, 0, 0, 0, 0, 0, 0, 0, 0, 0, 0, 0, 0, 0, 0, 0, 0, 0, 0, 0, 0, 0, 0, 0, 0, 0, 0, 0, 0, 0, 0, 0, 0, 0, 0, 0, 0, 0, 0, 0, 0, 0, 0, 56]
def qso : S8 := ⟨8120901527876697648#64, 17949069832450486135#64, 7422086389453069231#64, 5324443399370396830#64, 10819316341162660944#64, 8424160684005388856#64, 5060658105496990536#64, 16211878499124772735#64⟩
theorem qvd : jV.add (QH (je qsx 64) jV 80) = qso := by kernel_rfl
theorem qnn : jD qup = qvX := (quO qup qsx qso (by decide +kernel) rfl qvd (by decide)).trans (by kernel_rfl)
def qu4 : List UInt8 := [79, 102, 229, 116, 215, 103, 240, 239, 245, 0, 82, 210, 150, 35, 33, 56, 125, 199, 171, 134, 35, 228, 84, 22, 89, 59, 44, 4, 93, 220, 93, 250, 215, 90, 152, 1, 130, 177, 10, 183, 213, 75, 254, 211, 201, 100, 7, 58, 14, 225, 114, 243, 218, 166, 35, 37, 175, 2, 26, 104, 247, 7, 81, 26, 76, 65, 84, 67, 72, 73, 77, 71, 7, 0, 0, 0, 7, 0, 0, 0, 0, 0, 0, 0, 0, 0, 0, 0, 0, 0, 0, 0, 0, 0, 0, 0, 0, 0, 0, 0, 0, 0, 0, 0, 0, 0, 0, 0, 0, 0, 0, 0, 0, 0, 0, 0, 0, 0, 0, 0, 0, 0, 0, 0, 0, 0, 0, 0, 112, 179, 60, 233, 201, 4, 126, 48, 249, 23, 231, 234, 19, 228, 47, 119, 103, 0, 140, 63, 79, 156, 155, 175, 73, 228, 57, 15, 198, 37, 84, 158, 150, 37, 238, 227, 155, 148, 84, 80, 116, 232, 161, 130, 76, 243, 242, 56, 70, 59, 17, 188, 3, 217, 115, 72, 224, 252, 41, 153, 202, 31, 255, 127]
def quh : List UInt8 := [86, 60, 10, 248, 124, 248, 250, 207, 79, 158, 1, 219, 140, 244, 216, 185, 11, 122, 226, 132, 163, 100, 70, 227, 159, 192, 135, 163, 75, 186, 227, 253, 70, 87, 205, 126, 35, 211, 27, 7, 197, 195, 45, 8, 4, 63, 2, 41, 12, 200, 167, 160, 86, 210, 103, 138, 213, 241, 52, 116, 242, 94, 48, 165]
def qs6 : List UInt8 := [79, 102, 229, 116, 215, 103, 240, 239, 245, 0, 82, 210, 150, 35, 33, 56, 125, 199, 171, 134, 35, 228, 84, 22, 89, 59, 44, 4, 93, 220, 93, 250, 215, 90, 152, 1, 130, 177, 10, 183, 213, 75, 254, 211, 201, 100, 7, 58, 14, 225, 114, 243, 218, 166, 35, 37, 175, 2, 26, 104, 247, 7, 81, 26, 76, 65, 84, 67, 72, 73, 77, 71, 7, 0, 0, 0, 7, 0, 0, 0, 0, 0, 0, 0, 0, 0, 0, 0, 0, 0, 0, 0, 0, 0, 0, 0, 0, 0, 0, 0, 0, 0, 0, 0, 0, 0, 0, 0, 0, 0, 0, 0, 0, 0, 0, 0, 0, 0, 0, 0, 0, 0, 0, 0, 0, 0, 0, 0]
def qnl : S8 := ⟨2080644107524409246#64, 13409875672069664315#64, 6860184369129927726#64, 2163989823442125965#64, 7482769894655909856#64, 4295511007468891960#64, 2978883309469083739#64, 12898767072643170827#64⟩
theorem qu0 : jV.add (QH (je qs6 64) jV 80) = qnl := by kernel_rfl
def qtU : List UInt8 := [112, 179, 60, 233, 201, 4, 126, 48, 249, 23, 231, 234, 19, 228, 47, 119, 103, 0, 140, 63, 79, 156, 155, 175, 73, 228, 57, 15, 198, 37, 84, 158, 150, 37, 238, 227, 155, 148, 84, 80, 116, 232, 161, 130, 76, 243, 242, 56, 70, 59, 17, 188, 3, 217, 115, 72, 224, 252, 41, 153, 202, 31, 255, 127, 128, 0, 0, 0, 0, 0, 0, 0, 0, 0, 0, 0, 0, 0, 0, 0, 0, 0, 0, 0, 0, 0, 0, 0, 0, 0, 0, 0, 0, 0, 0, 0, 0, 0, 0, 0, 0, 0, 0, 0, 0, 0, 0, 0, 0, 0, 0, 0, 0, 0, 0, 0, 0, 0, 0, 0, 0, 0, 0, 0, 0, 0, 6, 0]
def qtj : S8 := ⟨6213853648229300943#64, 5737025017790912697#64, 827222540880725731#64, 11511349782978946045#64, 5068745847279393543#64, 14250283158384607785#64, 921170430890502026#64, 15416160676353028261#64⟩
theorem quK : qnl.add (QH (je qtU 64) qnl 80) = qtj := by kernel_rfl
theorem qnZ : jD qu4 = quh := (quj qu4 qs6 qtU qnl qtj (by decide +kernel) rfl rfl qu0 quK (by decide)).trans (by kernel_rfl)
end Go.Proofs.YtccgfabojbjmjaaGreatDoor
