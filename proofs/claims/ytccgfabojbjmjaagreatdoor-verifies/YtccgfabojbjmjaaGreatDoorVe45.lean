import Derived.Test.YtccgfabojbjmjaaGreatDoorVe44
import Derived.LaidLaws
import Derived.LaidHandle
namespace Go.Proofs.YtccgfabojbjmjaaGreatDoor
open Go.ChangeShapes Go.WideShapes Go.ChangeAt Go.RowKit
theorem gTabS : Tryz.prog.globalNamed "latch/digest.roundWords" = some 9 := by kernel_rfl
theorem gTabTypeS : (Tryz.prog.globals[9]?).map (·.type) = some 257 := by kernel_rfl
theorem cells80S : Tryz.prog.cellsOf 257 = 80 := by kernel_rfl
def kintsS : List Int := kws.map U
theorem laid_tabS : (Rows.laid_latch_digest_roundWords : DataW Unit) = Lib.tabData .u64 kintsS := by kernel_rfl
theorem kintsS_get (i : Nat) (h : i < 80) : kintsS.getD i 0 = U (kw i) := by
 have hl : i < kws.length := h
 simp [kintsS, kw, List.getD, List.getElem?_eq_getElem hl]
set_option maxRecDepth 100000 in
theorem tab_met {L : List (String × DataW Unit)} {W : World} (hL : laidMetH Tryz.prog L W) (hf : L.filter (fun x => x.1 == "latch/digest.roundWords") = [("latch/digest.roundWords", Rows.laid_latch_digest_roundWords)]) : Tab W := by
 have h1 : laidMetH Tryz.prog (L.filter (fun x => x.1 == "latch/digest.roundWords")) W := laidMetH.filter (fun x => x.1 == "latch/digest.roundWords") hL
 rw [hf, laid_tabS] at h1
 have t : Lib.TabIs Tryz.prog W "latch/digest.roundWords" .u64 kintsS := Lib.tabIs_of_head (rest := []) gTabS gTabTypeS under80 underU64 cells64 cells80S h1
 intro i hi
 have e := t.cell gTabS i (by show i < kintsS.length; exact hi)
 rw [kintsS_get i hi] at e
 exact e
theorem ord_met {L : List (String × DataW Unit)} {W : World} (hL : laidMetH Tryz.prog L W) (hf : L.filter (fun x => x.1 == "latch/scalar.order") = [("latch/scalar.order", Rows.laid_latch_scalar_order)]) : OrdAt W := by
 have h1 : laidMetH Tryz.prog (L.filter (fun x => x.1 == "latch/scalar.order")) W := laidMetH.filter (fun x => x.1 == "latch/scalar.order") hL
 rw [hf] at h1
 exact order_met h1
theorem gErr : Tryz.prog.globalNamed "errors.errorType" = some 3 := by kernel_rfl
theorem rtS : (Tryz.prog.cutTypes.find? (·.1 == "internal/reflectlite.rtype")).map (·.2) = some 239 := by kernel_rfl
theorem oneRowS : ((List.range 312).filter fun t => Tryz.prog.rowNamed t [101, 114, 114, 111, 114]) = [66] := by kernel_rfl
theorem sizeTS : Tryz.prog.types.size = 312 := by kernel_rfl
set_option maxRecDepth 100000 in
theorem err_met {L : List (String × DataW Unit)} {W : World} (hL : laidMetH Tryz.prog L W) (hf : L.filter (fun x => x.1 == "errors.errorType") = [("errors.errorType", Rows.laid_errors_errorType)]) : W.cell? ⟨3, 0, none⟩ = some (rtV 66) := by
 have h1 : laidMetH Tryz.prog (L.filter (fun x => x.1 == "errors.errorType")) W := laidMetH.filter (fun x => x.1 == "errors.errorType") hL
 rw [hf] at h1
 have h' : laidMet Tryz.prog [] W ∧ handlesMet Tryz.prog [("errors.errorType", Rows.laid_errors_errorType)] W := h1
 obtain ⟨name, u, ty, e1, e2, e3, e4, e5⟩ := h'.2 _ (List.mem_singleton.2 rfl)
 have en : name = [101, 114, 114, 111, 114] := (Option.some.inj e1).symm
 subst en
 obtain rfl := Option.some.inj (rtS.symm.trans e2)
 have hm : ty ∈ (List.range 312).filter fun t => Tryz.prog.rowNamed t [101, 114, 114, 111, 114] := List.mem_filter.2 ⟨List.mem_range.2 (by rw [← sizeTS]; exact e3), e4⟩
 rw [oneRowS] at hm
 obtain rfl := List.mem_singleton.1 hm
 have hh : typeHandle Tryz.prog 66 = .pointer (some ⟨13, 66, none⟩) := by kernel_rfl
 rw [hh] at e5
 simpa using World.var?_cell gErr e5 0
theorem starE : "*" ++ "errors.errorString" = "*errors.errorString" := by decide
theorem rowE (u : TypeId) (h : Tryz.prog.typeName? 3 u = some "*errors.errorString") : u = 282 :=
 typeName_ptr_named (nm := "errors.errorString") (by rw [starE]; kernel_rfl) (by kernel_rfl) (by decide) u (by rw [starE]; exact h)
theorem cellsES : Tryz.prog.cellsOf 301 = 1 := by kernel_rfl
theorem cellsStr : Tryz.prog.cellsOf 9 = 1 := by kernel_rfl
set_option maxRecDepth 100000 in
theorem sent_met {L : List (String × DataW Unit)} {W : World} {nm : String} {g : Nat} {text : List UInt8} (hL : laidMetH Tryz.prog L W) (hf : L.filter (fun x => x.1 == nm) = [(nm, .iface "*errors.errorString" (.ptr (.agg [.lit (.string text)])))]) (hg : Tryz.prog.globalNamed nm = some g) (ht : (Tryz.prog.globals[g]?).map (·.type) = some 66) :
  ∃ (a : Addr) (s : ByteArray), SentP W g a ∧ W.cell? a = some (.string s) ∧ s.data.toList = text := by
 have h1 : laidMetH Tryz.prog (L.filter (fun x => x.1 == nm)) W := laidMetH.filter (fun x => x.1 == nm) hL
 rw [hf] at h1
 have h2 : laidMet Tryz.prog [(nm, .iface "*errors.errorString" (.ptr (.agg [.lit (.string text)])))] W := h1
 obtain ⟨ps, ⟨g0, t0, cs0, f0, p0, q0, hg0, ht0, hv0, hd0, hq0, e0⟩, hnd, hrows⟩ := h2
 obtain rfl := Option.some.inj (hg.symm.trans hg0)
 obtain rfl := Option.some.inj (ht.symm.trans ht0)
 have hq0' : q0 = [] := hq0
 subst hq0'
 subst e0
 obtain ⟨l0⟩ := cs0
 have ok0 : ∀ u v, l0 = [.iface u v] → Value.okWide Tryz.prog W .any 0 u v := fun u v e => by
  subst e
  exact (hrows g 0 (by simp [MemPlace.row])).2 u v (by simpa using World.var?_cell hg0 hv0 0)
 obtain ⟨a0, s0, rfl, hc0, hs0, hz0, rfl⟩ := errorString_of_trod Tryz.underlying66 rowE Tryz.underlying282 Tryz.underlying301 rfl rfl Tryz.underlying9 cellsES cellsStr hd0 ok0
 obtain ⟨c0, t0, hb0⟩ := (hrows a0.block a0.off (by simp [MemPlace.row])).1
 exact ⟨a0, s0, ⟨by simpa [esI] using World.var?_cell hg0 hv0 0, c0, t0, hb0⟩, hc0, hs0⟩
theorem sent_ne {W : World} {a b : Addr} {s t : ByteArray} (ha : W.cell? a = some (.string s)) (hb : W.cell? b = some (.string t)) {x y : List UInt8} (hs : s.data.toList = x) (ht : t.data.toList = y) (h : x ≠ y) : a ≠ b := by
 rintro rfl
 rw [ha] at hb
 have e : s = t := by injection hb with hb; injection hb
 subst e
 exact h (hs.symm.trans ht)
set_option maxRecDepth 100000 in
theorem sents_met {L : List (String × DataW Unit)} {W : World} (hL : laidMetH Tryz.prog L W)
  (fE : L.filter (fun x => x.1 == "errors.errorType") = [("errors.errorType", Rows.laid_errors_errorType)])
  (fK : L.filter (fun x => x.1 == "latch/fault.ErrKeys") = [("latch/fault.ErrKeys", Rows.laid_latch_fault_ErrKeys)])
  (fP : L.filter (fun x => x.1 == "latch/fault.ErrPoint") = [("latch/fault.ErrPoint", Rows.laid_latch_fault_ErrPoint)])
  (fS : L.filter (fun x => x.1 == "latch/fault.ErrScalar") = [("latch/fault.ErrScalar", Rows.laid_latch_fault_ErrScalar)])
  (fG : L.filter (fun x => x.1 == "latch/fault.ErrSign") = [("latch/fault.ErrSign", Rows.laid_latch_fault_ErrSign)]) : ∃ k p s g, Sents W k p s g := by
 obtain ⟨k, sk, hk, ck, ek⟩ := sent_met hL fK (g := 0) (by kernel_rfl) (by kernel_rfl)
 obtain ⟨p, sp, hp, cp, ep⟩ := sent_met hL fP (g := 1) (by kernel_rfl) (by kernel_rfl)
 obtain ⟨s, ss, hs, cs, es⟩ := sent_met hL fS (g := 2) (by kernel_rfl) (by kernel_rfl)
 obtain ⟨g, sg, hg, cg, eg⟩ := sent_met hL fG (g := 4) (by kernel_rfl) (by kernel_rfl)
 exact ⟨k, p, s, g, err_met hL fE, hk, hp, hs, hg, sent_ne cp ck ep ek (by decide), sent_ne cs ck es ek (by decide), sent_ne cs cp es ep (by decide), sent_ne cg ck eg ek (by decide), sent_ne cg cp eg ep (by decide), sent_ne cg cs eg es (by decide)⟩
noncomputable def lowS : Nat := (World.holding Tryz.prog default ⟨#[], #[], []⟩).heap.size
def txK : ByteArray := ⟨#[116, 104, 101, 121, 32, 97, 114, 101, 32, 116, 111, 111, 32, 109, 97, 110, 121, 44, 32, 111, 114, 32, 111, 110, 101, 32, 105, 115, 32, 111, 102, 32, 97, 110, 111, 116, 104, 101, 114, 32, 115, 105, 122, 101]⟩
def txP : ByteArray := ⟨#[105, 116, 32, 105, 115, 32, 110, 111, 32, 112, 111, 105, 110, 116, 39, 115, 32, 99, 111, 100, 101]⟩
def txS : ByteArray := ⟨#[105, 116, 32, 105, 115, 32, 110, 111, 116, 32, 98, 101, 108, 111, 119, 32, 76]⟩
def txG : ByteArray := ⟨#[105, 116, 32, 105, 115, 32, 110, 111, 116, 32, 114, 105, 103, 104, 116]⟩
noncomputable def laidWorldS (os : Os) : World :=
 { laidWorldB os with heap := putR 0 #[esI ⟨lowS, 0, none⟩] (putR 1 #[esI ⟨lowS + 1, 0, none⟩] (putR 2 #[esI ⟨lowS + 2, 0, none⟩] (putR 4 #[esI ⟨lowS + 3, 0, none⟩] (putR 3 #[rtV 66] (putR 6 #[nv 6346243789798364141, nv 1503914060200516822, nv 0, nv 1152921504606846976] (putR 9 (kws.map uv).toArray (laidWorldB os).heap)))))) ++ #[.cells #[.string txK] 301, .cells #[.string txP] 301, .cells #[.string txS] 301, .cells #[.string txG] 301] }
end Go.Proofs.YtccgfabojbjmjaaGreatDoor
